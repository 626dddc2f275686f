/-
  ZB: several texts in one.
-/
import Derived.Test.YtjifiijgghpniaaZA
import Derived.Deep.RegionHeld3
/-
  Contracts of units and its reference: basic units, bounds, amounts, what gives up.
-/
namespace Go.Proofs.Ytjifiijgghpniaa
open Go.RowKit Un

set_option maxRecDepth 100000 in
set_option maxHeartbeats 4000000 in
theorem uisBasic_any (u : U) (w : World) : Calls Try.prog 59 #[.agg #[.bool u.f, .int .i64 u.m, .int .i64 u.a, .int .i64 u.d]] w fun e w' => e = .returned (.bool (basic u)) ∧ RowKit.Below w.heap.size w w' := by
  have HB := Lib.hid (Below.refl w.heap.size w)
  obtain ⟨f, m, a, d⟩ := u
  simp only
  obtain ⟨R, hR⟩ : ∃ R, R = basic ⟨f, m, a, d⟩ := ⟨_, rfl⟩
  rw [← hR]
  have HR := Lib.hid hR
  clear hR
  cases f with
  | true =>
    go_enter Try.func59, Try.ntmps59
    go_wp2_with fail
    all_goals
      go_ret
      refine ⟨ret_bool ?_, (by repeat' (first | (with_reducible exact HB.out) | (with_reducible refine Below.setCell ?_ ?_ _) | (with_reducible refine Below.alloc ?_ ?_ _) | (with_reducible refine Below.drew ?_) | (with_reducible refine below_drewN ?_ _) | (with_reducible exact Below.refl _ _) | omega | (simp; done) | (simp; omega)))⟩
      rw [HR.out]
      simp_all [basic, uFlag, uNum, uMoney, uArea, uDays]
  | false =>
    go_enter Try.func59, Try.ntmps59
    go_wp2_with fail
    all_goals
      go_ret
      refine ⟨ret_bool ?_, (by repeat' (first | (with_reducible exact HB.out) | (with_reducible refine Below.setCell ?_ ?_ _) | (with_reducible refine Below.alloc ?_ ?_ _) | (with_reducible refine Below.drew ?_) | (with_reducible refine below_drewN ?_ _) | (with_reducible exact Below.refl _ _) | omega | (simp; done) | (simp; omega)))⟩
      rw [HR.out]
      simp_all [basic, uFlag, uNum, uMoney, uArea, uDays]
theorem rFlag_any (w : World) : Calls Try.prog 27 #[] w fun e w' => e = .returned (.agg #[.bool true, .int .i64 0, .int .i64 0, .int .i64 0]) ∧ RowKit.Below w.heap.size w w' := by
  have HB := Lib.hid (Below.refl w.heap.size w)
  go_enter Try.func27, Try.ntmps27
  go_wp2_with fail
  exact bodyPost_ret (v := .agg #[.bool true, .int .i64 0, .int .i64 0, .int .i64 0]) (by simp [results, Try.results27, go_sem]) rfl ⟨rfl, (by repeat' (first | (with_reducible exact HB.out) | (with_reducible refine Below.setCell ?_ ?_ _) | (with_reducible refine Below.alloc ?_ ?_ _) | (with_reducible refine Below.drew ?_) | (with_reducible refine below_drewN ?_ _) | (with_reducible exact Below.refl _ _) | omega | (simp; done) | (simp; omega)))⟩
theorem rNumber_any (w : World) : Calls Try.prog 51 #[] w fun e w' => e = .returned (.agg #[.bool false, .int .i64 0, .int .i64 0, .int .i64 0]) ∧ RowKit.Below w.heap.size w w' := by
  have HB := Lib.hid (Below.refl w.heap.size w)
  go_enter Try.func51, Try.ntmps51
  go_wp2_with fail
  exact bodyPost_ret (v := .agg #[.bool false, .int .i64 0, .int .i64 0, .int .i64 0]) (by simp [results, Try.results51, go_sem]) rfl ⟨rfl, (by repeat' (first | (with_reducible exact HB.out) | (with_reducible refine Below.setCell ?_ ?_ _) | (with_reducible refine Below.alloc ?_ ?_ _) | (with_reducible refine Below.drew ?_) | (with_reducible refine below_drewN ?_ _) | (with_reducible exact Below.refl _ _) | omega | (simp; done) | (simp; omega)))⟩
theorem rMoney_any (w : World) : Calls Try.prog 33 #[] w fun e w' => e = .returned (.agg #[.bool false, .int .i64 1, .int .i64 0, .int .i64 0]) ∧ RowKit.Below w.heap.size w w' := by
  have HB := Lib.hid (Below.refl w.heap.size w)
  go_enter Try.func33, Try.ntmps33
  go_wp2_with fail
  exact bodyPost_ret (v := .agg #[.bool false, .int .i64 1, .int .i64 0, .int .i64 0]) (by simp [results, Try.results33, go_sem]) rfl ⟨rfl, (by repeat' (first | (with_reducible exact HB.out) | (with_reducible refine Below.setCell ?_ ?_ _) | (with_reducible refine Below.alloc ?_ ?_ _) | (with_reducible refine Below.drew ?_) | (with_reducible refine below_drewN ?_ _) | (with_reducible exact Below.refl _ _) | omega | (simp; done) | (simp; omega)))⟩
theorem rDays_any (w : World) : Calls Try.prog 52 #[] w fun e w' => e = .returned (.agg #[.bool false, .int .i64 0, .int .i64 0, .int .i64 1]) ∧ RowKit.Below w.heap.size w w' := by
  have HB := Lib.hid (Below.refl w.heap.size w)
  go_enter Try.func52, Try.ntmps52
  go_wp2_with fail
  exact bodyPost_ret (v := .agg #[.bool false, .int .i64 0, .int .i64 0, .int .i64 1]) (by simp [results, Try.results52, go_sem]) rfl ⟨rfl, (by repeat' (first | (with_reducible exact HB.out) | (with_reducible refine Below.setCell ?_ ?_ _) | (with_reducible refine Below.alloc ?_ ?_ _) | (with_reducible refine Below.drew ?_) | (with_reducible refine below_drewN ?_ _) | (with_reducible exact Below.refl _ _) | omega | (simp; done) | (simp; omega)))⟩
set_option maxRecDepth 100000 in
set_option maxHeartbeats 4000000 in
theorem uisBounded_any (nm : ByteArray) (u : U) (lo hi pl : Int) (w : World) : Calls Try.prog 60 #[.agg #[.string nm, .bool u.f, .int .i64 u.m, .int .i64 u.a, .int .i64 u.d, .int .i64 lo, .int .i64 hi, .int .i64 pl]] w fun e w' => e = .returned (.bool (decide (0 ≤ lo) && decide (lo ≤ hi) && decide (hi ≤ 1000000) && (!u.f || decide (hi ≤ 1)))) ∧ RowKit.Below w.heap.size w w' := by
  have HB := Lib.hid (Below.refl w.heap.size w)
  obtain ⟨f, m, a, d⟩ := u
  simp only
  obtain ⟨R, hR⟩ : ∃ R, R = (decide (0 ≤ lo) && decide (lo ≤ hi) && decide (hi ≤ 1000000) && (!f || decide (hi ≤ 1))) := ⟨_, rfl⟩
  rw [← hR]
  have HR := Lib.hid hR
  clear hR
  cases f with
  | true =>
    go_enter Try.func60, Try.ntmps60
    go_wp2_with fail
    all_goals
      go_ret
      refine ⟨ret_bool ?_, (by repeat' (first | (with_reducible exact HB.out) | (with_reducible refine Below.setCell ?_ ?_ _) | (with_reducible refine Below.alloc ?_ ?_ _) | (with_reducible refine Below.drew ?_) | (with_reducible refine below_drewN ?_ _) | (with_reducible exact Below.refl _ _) | omega | (simp; done) | (simp; omega)))⟩
      rw [HR.out, Bool.eq_iff_iff]
      simp only [Bool.and_eq_true, decide_eq_true_eq, Bool.not_true, Bool.false_or] at *
      first | omega | (simp_all; done) | (simp_all; omega)
  | false =>
    go_enter Try.func60, Try.ntmps60
    go_wp2_with fail
    all_goals
      go_ret
      refine ⟨ret_bool ?_, (by repeat' (first | (with_reducible exact HB.out) | (with_reducible refine Below.setCell ?_ ?_ _) | (with_reducible refine Below.alloc ?_ ?_ _) | (with_reducible refine Below.drew ?_) | (with_reducible refine below_drewN ?_ _) | (with_reducible exact Below.refl _ _) | omega | (simp; done) | (simp; omega)))⟩
      rw [HR.out, Bool.eq_iff_iff]
      simp only [Bool.and_eq_true, decide_eq_true_eq, Bool.not_false, Bool.true_or] at *
      first | omega | (simp_all; done) | (simp_all; omega)
set_option maxRecDepth 100000 in
set_option maxHeartbeats 4000000 in
theorem rbounds_any (nm : ByteArray) (u : U) (lo hi pl : Int) (w : World) : Calls Try.prog 65 #[.agg #[.string nm, .bool u.f, .int .i64 u.m, .int .i64 u.a, .int .i64 u.d, .int .i64 lo, .int .i64 hi, .int .i64 pl]] w fun e w' => e = .returned (.bool (decide (0 ≤ lo) && decide (lo ≤ hi) && decide (hi ≤ 1000000) && (!u.f || decide (hi ≤ 1)))) ∧ RowKit.Below w.heap.size w w' := by
  have HB := Lib.hid (Below.refl w.heap.size w)
  obtain ⟨f, m, a, d⟩ := u
  simp only
  obtain ⟨R, hR⟩ : ∃ R, R = (decide (0 ≤ lo) && decide (lo ≤ hi) && decide (hi ≤ 1000000) && (!f || decide (hi ≤ 1))) := ⟨_, rfl⟩
  rw [← hR]
  have HR := Lib.hid hR
  clear hR
  cases f with
  | true =>
    go_enter Try.func65, Try.ntmps65
    go_wp2_with fail
    all_goals
      go_ret
      refine ⟨ret_bool ?_, (by repeat' (first | (with_reducible exact HB.out) | (with_reducible refine Below.setCell ?_ ?_ _) | (with_reducible refine Below.alloc ?_ ?_ _) | (with_reducible refine Below.drew ?_) | (with_reducible refine below_drewN ?_ _) | (with_reducible exact Below.refl _ _) | omega | (simp; done) | (simp; omega)))⟩
      rw [HR.out, Bool.eq_iff_iff]
      simp only [Bool.and_eq_true, decide_eq_true_eq, Bool.not_true, Bool.false_or] at *
      first | omega | (simp_all; done) | (simp_all; omega)
  | false =>
    go_enter Try.func65, Try.ntmps65
    go_wp2_with fail
    all_goals
      go_ret
      refine ⟨ret_bool ?_, (by repeat' (first | (with_reducible exact HB.out) | (with_reducible refine Below.setCell ?_ ?_ _) | (with_reducible refine Below.alloc ?_ ?_ _) | (with_reducible refine Below.drew ?_) | (with_reducible refine below_drewN ?_ _) | (with_reducible exact Below.refl _ _) | omega | (simp; done) | (simp; omega)))⟩
      rw [HR.out, Bool.eq_iff_iff]
      simp only [Bool.and_eq_true, decide_eq_true_eq, Bool.not_false, Bool.true_or] at *
      first | omega | (simp_all; done) | (simp_all; omega)
theorem uneed_ok (E at0 : Int) (w : World) : Calls Try.prog 55 #[.bool true, .int .i64 E, .int .i64 at0] w fun e w' => e = .returned (.tuple #[]) ∧ w' = w := by
  go_enter Try.func55, Try.ntmps55
  go_wp2_with fail
  go_end0
  exact ⟨rfl, rfl⟩
/-- The panic by which a check gives up. -/
def failU (E at0 : Int) : List PanicEntry := [{ v := .iface 83 (.agg #[.int .i64 at0, .int .i64 E]), recovered := false }]
theorem uneed_er (E at0 : Int) (w : World) : Calls Try.prog 55 #[.bool false, .int .i64 E, .int .i64 at0] w fun e w' => e = .panicked (failU E at0) ∧ w' = w := by
  go_enter Try.func55, Try.ntmps55
  go_wp2_with fail
  exact bodyPost_panic rfl ⟨rfl, rfl⟩
set_option maxRecDepth 100000 in
set_option maxHeartbeats 4000000 in
theorem uisAmount_any (op pl : Int) (nm : ByteArray) (n d : Int) (u : U) (q : Option Addr) (k c : Nat) (w : World) : Calls Try.prog 56 #[.agg #[.int .i64 op, .int .i64 pl, .string nm, .int .i64 n, .int .i64 d, .bool u.f, .int .i64 u.m, .int .i64 u.a, .int .i64 u.d, .slice q k c]] w fun e w' => e = .returned (.bool (!u.f && (u.m == 0 || d == 1))) ∧ RowKit.Below w.heap.size w w' := by
  have HB := Lib.hid (Below.refl w.heap.size w)
  obtain ⟨f, m, a, z⟩ := u
  simp only
  obtain ⟨R, hR⟩ : ∃ R, R = (!f && (m == 0 || d == 1)) := ⟨_, rfl⟩
  rw [← hR]
  have HR := Lib.hid hR
  clear hR
  cases f with
  | true =>
    go_enter Try.func56, Try.ntmps56
    go_wp2_with fail
    all_goals
      go_ret
      refine ⟨ret_bool ?_, (by repeat' (first | (with_reducible exact HB.out) | (with_reducible refine Below.setCell ?_ ?_ _) | (with_reducible refine Below.alloc ?_ ?_ _) | (with_reducible refine Below.drew ?_) | (with_reducible refine below_drewN ?_ _) | (with_reducible exact Below.refl _ _) | omega | (simp; done) | (simp; omega)))⟩
      rw [HR.out]
      simp_all
  | false =>
    go_enter Try.func56, Try.ntmps56
    go_wp2_with fail
    all_goals
      go_ret
      refine ⟨ret_bool ?_, (by repeat' (first | (with_reducible exact HB.out) | (with_reducible refine Below.setCell ?_ ?_ _) | (with_reducible refine Below.alloc ?_ ?_ _) | (with_reducible refine Below.drew ?_) | (with_reducible refine below_drewN ?_ _) | (with_reducible exact Below.refl _ _) | omega | (simp; done) | (simp; omega)))⟩
      rw [HR.out]
      simp_all
end Go.Proofs.Ytjifiijgghpniaa
/-
  Contract of units: isNode.
-/
namespace Go.Proofs.Ytjifiijgghpniaa
open Go.RowKit Un

def in64 (n : Int) : Prop := -9223372036854775808 ≤ n ∧ n ≤ 9223372036854775807
/-- Is a node as it must be, but for its operands? -/
def okN (op : Int) (nm : List UInt8) (n d : Int) (u : U) (kl : Nat) : Bool := decide ((kl : Int) = arity op) && (if op = 1 then nm.isEmpty && (vld n d && decide (0 ≤ n) && basic u) else if op = 2 then isName nm && (n == 0 && d == 0 && u == uNum) else nm.isEmpty && (n == 0 && d == 0 && u == uNum))
theorem okN_eq (op pl : Int) (nm : List UInt8) (n d : Int) (u : U) (ks : List Nd) : okNode vld (.mk op pl nm n d u ks) = okN op nm n d u ks.length := rfl
theorem nm_test (nm : List UInt8) : ((bs nm).toList == []) = nm.isEmpty := by rw [bs_list]; cases nm <;> rfl
/-- The frame of isNode, whatever is in the temporaries that are not read any more. -/
inductive IsN (A : Nat) (x2 x3 x4 : Value) : Act → Prop where
  | mk (u0 u5 u6 u7 u8 u9 u10 u11 u12 u13 u14 u15 u16 u17 u18 u19 u20 u21 u22 u23 u24 u25 u26 u27 u28 u29 u30 u31 u32 u33 u34 u35 u36 u37 u38 u39 u40 u41 u42 u43 u44 u45 u46 u47 u48 u49 u50 u51 u52 u53 u54 u55 u56 u57 u58 u59 u60 u61 u62 u63 u64 u65 u66 : Value) : IsN A x2 x3 x4 { tmps := List.toArray (u0 :: .pointer (some ⟨A, 0, none⟩) :: x2 :: x3 :: x4 :: u5 :: u6 :: u7 :: u8 :: u9 :: u10 :: u11 :: u12 :: u13 :: u14 :: u15 :: u16 :: u17 :: u18 :: u19 :: u20 :: u21 :: u22 :: u23 :: u24 :: u25 :: u26 :: u27 :: u28 :: u29 :: u30 :: u31 :: u32 :: u33 :: u34 :: u35 :: u36 :: u37 :: u38 :: u39 :: u40 :: u41 :: u42 :: u43 :: u44 :: u45 :: u46 :: u47 :: u48 :: u49 :: u50 :: u51 :: u52 :: u53 :: u54 :: u55 :: u56 :: u57 :: u58 :: u59 :: u60 :: u61 :: u62 :: u63 :: u64 :: u65 :: u66 :: []), defers := [] }
set_option maxRecDepth 100000 in
set_option maxHeartbeats 8000000 in
theorem uisNode_any (op pl : Int) (nm : List UInt8) (n d : Int) (u : U) (q : Option Addr) (kl c : Nat) (hn : in64 n) (hd : in64 d) (hkl : kl ≤ 9223372036854775807) (w : World) :
    Calls Try.prog 83 #[.agg #[.int .i64 op, .int .i64 pl, .string (bs nm), .int .i64 n, .int .i64 d, .bool u.f, .int .i64 u.m, .int .i64 u.a, .int .i64 u.d, .slice q kl c]] w fun e w' => e = .returned (.bool (okN op nm n d u kl)) ∧ RowKit.Below w.heap.size w w' := by
  obtain ⟨R, hR⟩ : ∃ R, R = okN op nm n d u kl := ⟨_, rfl⟩
  rw [← hR]
  have HR := Lib.hid hR
  have KV := Lib.hid (fun w => valid_any n d w hn.1 hn.2 hd.1 hd.2)
  have KN := Lib.hid (fun w => uisName_any nm w)
  have KB := Lib.hid (fun w => uisBasic_any u w)
  have e1 := nm_test nm
  obtain ⟨E, hE⟩ : ∃ E, nm.isEmpty = E := ⟨_, rfl⟩
  rw [hE] at e1
  have HE := Lib.hid hE
  generalize bs nm = s at *
  obtain ⟨f, m, a, z⟩ := u
  simp only at KB ⊢
  clear hR hE hn hd
  obtain ⟨b, hb⟩ : ∃ b, b = (n == 0 && d == 0 && (⟨f, m, a, z⟩ : U) == uNum) := ⟨_, rfl⟩
  have HBB := Lib.hid hb
  have B := Lib.hid ((Below.refl w.heap.size w).alloc (Nat.le_refl _) (.cells #[.int .i64 op, .int .i64 pl, .string s, .int .i64 n, .int .i64 d, .bool f, .int .i64 m, .int .i64 a, .int .i64 z, .slice q kl c] 32))
  have D := Lib.hid (BoxL.new w [.int .i64 op, .int .i64 pl, .string s, .int .i64 n, .int .i64 d, .bool f, .int .i64 m, .int .i64 a, .int .i64 z, .slice q kl c] 32)
  clear hb
  obtain ⟨A, hA⟩ : ∃ A, A = w.heap.size := ⟨_, rfl⟩
  have HA := Lib.hid hA
  clear hA
  go_enter Try.func83, Try.ntmps83
  obtain ⟨K0, hK0⟩ : ∃ K0 : Act → World → Prop, K0 = (fun act V => IsN A (.bool false) undef undef act ∧ Hid (BoxL V A [.int .i64 op, .int .i64 pl, .string s, .int .i64 n, .int .i64 d, .bool f, .int .i64 m, .int .i64 a, .int .i64 z, .slice q kl c]) ∧ Hid (RowKit.Below w.heap.size w V)) := ⟨_, rfl⟩
  have HK0 := Lib.hid hK0
  clear hK0
  refine wp_seq_cut K0 ?_ ?_
  rotate_left
  · intro J K hJ hK
    have HJ := Lib.hid hJ
    clear hJ
    go_wp2_with fail
    refine Handed.intro 0 (by decide) (HJ.out 0 _ _ ?_)
    rw [HK0.out]
    rw [HA.out]
    exact ⟨by constructor, D, B⟩
  clear B D
  rw [HK0.out]
  clear HK0
  rintro act v ⟨ha, D, B⟩
  cases ha
  obtain ⟨K0, hK0⟩ : ∃ K0 : Act → World → Prop, K0 = (fun act V => IsN A (.bool false) (.bool E) undef act ∧ Hid (BoxL V A [.int .i64 op, .int .i64 pl, .string s, .int .i64 n, .int .i64 d, .bool f, .int .i64 m, .int .i64 a, .int .i64 z, .slice q kl c]) ∧ Hid (RowKit.Below w.heap.size w V)) := ⟨_, rfl⟩
  have HK0 := Lib.hid hK0
  clear hK0
  refine wp_seq_cut K0 ?_ ?_
  rotate_left
  · intro J K hJ hK
    have HJ := Lib.hid hJ
    clear hJ
    obtain ⟨c2, f2⟩ := D.out 2 _ rfl
    go_wp2_with fail
    refine Handed.intro 0 (by decide) (HJ.out 0 _ _ ?_)
    rw [HK0.out]
    exact ⟨by constructor, D, B⟩
  clear B D e1
  rw [HK0.out]
  clear HK0
  rintro act v ⟨ha, D, B⟩
  cases ha
  obtain ⟨K0, hK0⟩ : ∃ K0 : Act → World → Prop, K0 = (fun act V => IsN A (.bool false) (.bool E) (.bool b) act ∧ Hid (BoxL V A [.int .i64 op, .int .i64 pl, .string s, .int .i64 n, .int .i64 d, .bool f, .int .i64 m, .int .i64 a, .int .i64 z, .slice q kl c]) ∧ Hid (RowKit.Below w.heap.size w V)) := ⟨_, rfl⟩
  have HK0 := Lib.hid hK0
  clear hK0
  refine wp_seq_cut K0 ?_ ?_
  rotate_left
  · intro J K hJ hK
    have HJ := Lib.hid hJ
    clear hJ
    obtain ⟨c3, f3⟩ := D.out 3 _ rfl
    obtain ⟨c4, f4⟩ := D.out 4 _ rfl
    obtain ⟨c5, f5⟩ := D.out 5 _ rfl
    obtain ⟨c6, f6⟩ := D.out 6 _ rfl
    obtain ⟨c7, f7⟩ := D.out 7 _ rfl
    obtain ⟨c8, f8⟩ := D.out 8 _ rfl
    go_wp2_with fail
    all_goals
      refine Handed.intro 0 (by decide) (HJ.out 0 _ _ ?_)
      rw [HK0.out]
      first
        | (obtain rfl : b = true := (by rw [HBB.out]; simp_all [uNum]; done); exact ⟨by constructor, D, B⟩)
        | (obtain rfl : b = false := (by rw [HBB.out]; simp_all [uNum]; done); exact ⟨by constructor, D, B⟩)
  clear B D
  rw [HK0.out]
  clear HK0
  rintro act v ⟨ha, D, B⟩
  cases ha
  by_cases h1 : op = 1
  · subst h1
    have HRF : Hid (R = (decide ((kl : Int) = 0) && (E && (vld n d && decide (0 ≤ n) && basic ⟨f, m, a, z⟩)))) := by show _ = _; rw [HR.out, okN, if_pos rfl, HE.out]; rfl
    clear HR KN HE
    generalize vld n d = vv at *
    generalize basic ⟨f, m, a, z⟩ = bb at *
    obtain ⟨c0, f0⟩ := D.out 0 _ rfl
    obtain ⟨c2, f2⟩ := D.out 2 _ rfl
    obtain ⟨c3, f3⟩ := D.out 3 _ rfl
    obtain ⟨c4, f4⟩ := D.out 4 _ rfl
    obtain ⟨c5, f5⟩ := D.out 5 _ rfl
    obtain ⟨c6, f6⟩ := D.out 6 _ rfl
    obtain ⟨c7, f7⟩ := D.out 7 _ rfl
    obtain ⟨c8, f8⟩ := D.out 8 _ rfl
    obtain ⟨c9, f9⟩ := D.out 9 _ rfl
    cases E <;>
    cases vv <;>
    cases bb <;>
    (
      go_wp2_with (first
        | ((with_reducible show Calls _ 93 _ _ _); refine (KV.out _).mono ?_; rintro _ v1 ⟨rfl, hb⟩; have D2 := D.out.bel (Nat.succ_pos _) hb; replace B := Lib.hid (B.out.trans (hb.mono B.out.size)); clear hb; obtain ⟨c3, f3⟩ := D2 3 _ rfl; obtain ⟨c5, f5⟩ := D2 5 _ rfl; obtain ⟨c6, f6⟩ := D2 6 _ rfl; obtain ⟨c7, f7⟩ := D2 7 _ rfl; obtain ⟨c8, f8⟩ := D2 8 _ rfl; obtain ⟨c9, f9⟩ := D2 9 _ rfl; replace D := Lib.hid D2; clear D2)
        | ((with_reducible show Calls _ 59 _ _ _); refine (KB.out _).mono ?_; rintro _ v2 ⟨rfl, hb⟩; have D2 := D.out.bel (Nat.succ_pos _) hb; replace B := Lib.hid (B.out.trans (hb.mono B.out.size)); clear hb; obtain ⟨c9, f9⟩ := D2 9 _ rfl; replace D := Lib.hid D2; clear D2)
        | ((with_reducible show Calls _ 58 _ _ _); refine (KN.out _).mono ?_; rintro _ v3 ⟨rfl, hw⟩; obtain rfl := hw.symm))
      all_goals
        go_ret
        refine ⟨ret_bool ?_, B.out⟩
        rw [HRF.out]
        simp_all <;> (rw [Bool.eq_iff_iff, beq_iff_eq, decide_eq_true_eq]; try omega)
    )
  · have e1 : (op == 1) = false := by simpa using h1
    by_cases h2 : op = 2
    · subst h2
      have HRF : Hid (R = (decide ((kl : Int) = 0) && (isName nm && b))) := by show _ = _; rw [HR.out, okN, if_neg (by decide), if_pos rfl, HBB.out]; rfl
      clear HR HE
      generalize isName nm = nn at *
      obtain ⟨c0, f0⟩ := D.out 0 _ rfl
      obtain ⟨c2, f2⟩ := D.out 2 _ rfl
      obtain ⟨c3, f3⟩ := D.out 3 _ rfl
      obtain ⟨c4, f4⟩ := D.out 4 _ rfl
      obtain ⟨c5, f5⟩ := D.out 5 _ rfl
      obtain ⟨c6, f6⟩ := D.out 6 _ rfl
      obtain ⟨c7, f7⟩ := D.out 7 _ rfl
      obtain ⟨c8, f8⟩ := D.out 8 _ rfl
      obtain ⟨c9, f9⟩ := D.out 9 _ rfl
      cases nn <;>
      cases b <;>
      (
        go_wp2_with (first
          | ((with_reducible show Calls _ 93 _ _ _); refine (KV.out _).mono ?_; rintro _ v1 ⟨rfl, hb⟩; have D2 := D.out.bel (Nat.succ_pos _) hb; replace B := Lib.hid (B.out.trans (hb.mono B.out.size)); clear hb; obtain ⟨c3, f3⟩ := D2 3 _ rfl; obtain ⟨c5, f5⟩ := D2 5 _ rfl; obtain ⟨c6, f6⟩ := D2 6 _ rfl; obtain ⟨c7, f7⟩ := D2 7 _ rfl; obtain ⟨c8, f8⟩ := D2 8 _ rfl; obtain ⟨c9, f9⟩ := D2 9 _ rfl; replace D := Lib.hid D2; clear D2)
          | ((with_reducible show Calls _ 59 _ _ _); refine (KB.out _).mono ?_; rintro _ v2 ⟨rfl, hb⟩; have D2 := D.out.bel (Nat.succ_pos _) hb; replace B := Lib.hid (B.out.trans (hb.mono B.out.size)); clear hb; obtain ⟨c9, f9⟩ := D2 9 _ rfl; replace D := Lib.hid D2; clear D2)
          | ((with_reducible show Calls _ 58 _ _ _); refine (KN.out _).mono ?_; rintro _ v3 ⟨rfl, hw⟩; obtain rfl := hw.symm))
        all_goals
          go_ret
          refine ⟨ret_bool ?_, B.out⟩
          rw [HRF.out]
          simp_all <;> (rw [Bool.eq_iff_iff, beq_iff_eq, decide_eq_true_eq]; try omega)
      )
    · have e2 : (op == 2) = false := by simpa using h2
      have HRF : Hid (R = (decide ((kl : Int) = arity op) && (E && b))) := by show _ = _; rw [HR.out, okN, if_neg h1, if_neg h2, HBB.out, HE.out]
      clear HR HE
      by_cases h17 : op = 17
      · subst h17
        rw [show arity 17 = 0 from rfl] at HRF
        obtain ⟨c0, f0⟩ := D.out 0 _ rfl
        obtain ⟨c2, f2⟩ := D.out 2 _ rfl
        obtain ⟨c3, f3⟩ := D.out 3 _ rfl
        obtain ⟨c4, f4⟩ := D.out 4 _ rfl
        obtain ⟨c5, f5⟩ := D.out 5 _ rfl
        obtain ⟨c6, f6⟩ := D.out 6 _ rfl
        obtain ⟨c7, f7⟩ := D.out 7 _ rfl
        obtain ⟨c8, f8⟩ := D.out 8 _ rfl
        obtain ⟨c9, f9⟩ := D.out 9 _ rfl
        cases E <;>
        cases b <;>
        (
          go_wp2_with (first
            | ((with_reducible show Calls _ 93 _ _ _); refine (KV.out _).mono ?_; rintro _ v1 ⟨rfl, hb⟩; have D2 := D.out.bel (Nat.succ_pos _) hb; replace B := Lib.hid (B.out.trans (hb.mono B.out.size)); clear hb; obtain ⟨c3, f3⟩ := D2 3 _ rfl; obtain ⟨c5, f5⟩ := D2 5 _ rfl; obtain ⟨c6, f6⟩ := D2 6 _ rfl; obtain ⟨c7, f7⟩ := D2 7 _ rfl; obtain ⟨c8, f8⟩ := D2 8 _ rfl; obtain ⟨c9, f9⟩ := D2 9 _ rfl; replace D := Lib.hid D2; clear D2)
            | ((with_reducible show Calls _ 59 _ _ _); refine (KB.out _).mono ?_; rintro _ v2 ⟨rfl, hb⟩; have D2 := D.out.bel (Nat.succ_pos _) hb; replace B := Lib.hid (B.out.trans (hb.mono B.out.size)); clear hb; obtain ⟨c9, f9⟩ := D2 9 _ rfl; replace D := Lib.hid D2; clear D2)
            | ((with_reducible show Calls _ 58 _ _ _); refine (KN.out _).mono ?_; rintro _ v3 ⟨rfl, hw⟩; obtain rfl := hw.symm))
          all_goals
            go_ret
            refine ⟨ret_bool ?_, B.out⟩
            rw [HRF.out]
            simp_all <;> (rw [Bool.eq_iff_iff, beq_iff_eq, decide_eq_true_eq]; try omega)
        )
      · have e17 : (op == 17) = false := by simpa using h17
        by_cases h15 : op = 15
        · subst h15
          rw [show arity 15 = 1 from rfl] at HRF
          obtain ⟨c0, f0⟩ := D.out 0 _ rfl
          obtain ⟨c2, f2⟩ := D.out 2 _ rfl
          obtain ⟨c3, f3⟩ := D.out 3 _ rfl
          obtain ⟨c4, f4⟩ := D.out 4 _ rfl
          obtain ⟨c5, f5⟩ := D.out 5 _ rfl
          obtain ⟨c6, f6⟩ := D.out 6 _ rfl
          obtain ⟨c7, f7⟩ := D.out 7 _ rfl
          obtain ⟨c8, f8⟩ := D.out 8 _ rfl
          obtain ⟨c9, f9⟩ := D.out 9 _ rfl
          cases E <;>
          cases b <;>
          (
            go_wp2_with (first
              | ((with_reducible show Calls _ 93 _ _ _); refine (KV.out _).mono ?_; rintro _ v1 ⟨rfl, hb⟩; have D2 := D.out.bel (Nat.succ_pos _) hb; replace B := Lib.hid (B.out.trans (hb.mono B.out.size)); clear hb; obtain ⟨c3, f3⟩ := D2 3 _ rfl; obtain ⟨c5, f5⟩ := D2 5 _ rfl; obtain ⟨c6, f6⟩ := D2 6 _ rfl; obtain ⟨c7, f7⟩ := D2 7 _ rfl; obtain ⟨c8, f8⟩ := D2 8 _ rfl; obtain ⟨c9, f9⟩ := D2 9 _ rfl; replace D := Lib.hid D2; clear D2)
              | ((with_reducible show Calls _ 59 _ _ _); refine (KB.out _).mono ?_; rintro _ v2 ⟨rfl, hb⟩; have D2 := D.out.bel (Nat.succ_pos _) hb; replace B := Lib.hid (B.out.trans (hb.mono B.out.size)); clear hb; obtain ⟨c9, f9⟩ := D2 9 _ rfl; replace D := Lib.hid D2; clear D2)
              | ((with_reducible show Calls _ 58 _ _ _); refine (KN.out _).mono ?_; rintro _ v3 ⟨rfl, hw⟩; obtain rfl := hw.symm))
            all_goals
              go_ret
              refine ⟨ret_bool ?_, B.out⟩
              rw [HRF.out]
              simp_all <;> (rw [Bool.eq_iff_iff, beq_iff_eq, decide_eq_true_eq]; try omega)
          )
        · have e15 : (op == 15) = false := by simpa using h15
          by_cases h16 : op = 16
          · subst h16
            rw [show arity 16 = 3 from rfl] at HRF
            obtain ⟨c0, f0⟩ := D.out 0 _ rfl
            obtain ⟨c2, f2⟩ := D.out 2 _ rfl
            obtain ⟨c3, f3⟩ := D.out 3 _ rfl
            obtain ⟨c4, f4⟩ := D.out 4 _ rfl
            obtain ⟨c5, f5⟩ := D.out 5 _ rfl
            obtain ⟨c6, f6⟩ := D.out 6 _ rfl
            obtain ⟨c7, f7⟩ := D.out 7 _ rfl
            obtain ⟨c8, f8⟩ := D.out 8 _ rfl
            obtain ⟨c9, f9⟩ := D.out 9 _ rfl
            cases E <;>
            cases b <;>
            (
              go_wp2_with (first
                | ((with_reducible show Calls _ 93 _ _ _); refine (KV.out _).mono ?_; rintro _ v1 ⟨rfl, hb⟩; have D2 := D.out.bel (Nat.succ_pos _) hb; replace B := Lib.hid (B.out.trans (hb.mono B.out.size)); clear hb; obtain ⟨c3, f3⟩ := D2 3 _ rfl; obtain ⟨c5, f5⟩ := D2 5 _ rfl; obtain ⟨c6, f6⟩ := D2 6 _ rfl; obtain ⟨c7, f7⟩ := D2 7 _ rfl; obtain ⟨c8, f8⟩ := D2 8 _ rfl; obtain ⟨c9, f9⟩ := D2 9 _ rfl; replace D := Lib.hid D2; clear D2)
                | ((with_reducible show Calls _ 59 _ _ _); refine (KB.out _).mono ?_; rintro _ v2 ⟨rfl, hb⟩; have D2 := D.out.bel (Nat.succ_pos _) hb; replace B := Lib.hid (B.out.trans (hb.mono B.out.size)); clear hb; obtain ⟨c9, f9⟩ := D2 9 _ rfl; replace D := Lib.hid D2; clear D2)
                | ((with_reducible show Calls _ 58 _ _ _); refine (KN.out _).mono ?_; rintro _ v3 ⟨rfl, hw⟩; obtain rfl := hw.symm))
              all_goals
                go_ret
                refine ⟨ret_bool ?_, B.out⟩
                rw [HRF.out]
                simp_all <;> (rw [Bool.eq_iff_iff, beq_iff_eq, decide_eq_true_eq]; try omega)
            )
          · have e16 : (op == 16) = false := by simpa using h16
            by_cases h3 : op < 3
            · have ha : arity op = -1 := by unfold arity; rw [if_neg (by omega), if_neg h15, if_neg h16, if_neg (by omega)]
              rw [ha] at HRF
              have hk0 : ¬ (kl : Int) = -1 := by omega
              clear ha
              obtain ⟨c0, f0⟩ := D.out 0 _ rfl
              obtain ⟨c2, f2⟩ := D.out 2 _ rfl
              obtain ⟨c3, f3⟩ := D.out 3 _ rfl
              obtain ⟨c4, f4⟩ := D.out 4 _ rfl
              obtain ⟨c5, f5⟩ := D.out 5 _ rfl
              obtain ⟨c6, f6⟩ := D.out 6 _ rfl
              obtain ⟨c7, f7⟩ := D.out 7 _ rfl
              obtain ⟨c8, f8⟩ := D.out 8 _ rfl
              obtain ⟨c9, f9⟩ := D.out 9 _ rfl
              cases E <;>
              cases b <;>
              (
                go_wp2_with (first
                  | ((with_reducible show Calls _ 93 _ _ _); refine (KV.out _).mono ?_; rintro _ v1 ⟨rfl, hb⟩; have D2 := D.out.bel (Nat.succ_pos _) hb; replace B := Lib.hid (B.out.trans (hb.mono B.out.size)); clear hb; obtain ⟨c3, f3⟩ := D2 3 _ rfl; obtain ⟨c5, f5⟩ := D2 5 _ rfl; obtain ⟨c6, f6⟩ := D2 6 _ rfl; obtain ⟨c7, f7⟩ := D2 7 _ rfl; obtain ⟨c8, f8⟩ := D2 8 _ rfl; obtain ⟨c9, f9⟩ := D2 9 _ rfl; replace D := Lib.hid D2; clear D2)
                  | ((with_reducible show Calls _ 59 _ _ _); refine (KB.out _).mono ?_; rintro _ v2 ⟨rfl, hb⟩; have D2 := D.out.bel (Nat.succ_pos _) hb; replace B := Lib.hid (B.out.trans (hb.mono B.out.size)); clear hb; obtain ⟨c9, f9⟩ := D2 9 _ rfl; replace D := Lib.hid D2; clear D2)
                  | ((with_reducible show Calls _ 58 _ _ _); refine (KN.out _).mono ?_; rintro _ v3 ⟨rfl, hw⟩; obtain rfl := hw.symm))
                all_goals
                  go_ret
                  refine ⟨ret_bool ?_, B.out⟩
                  rw [HRF.out]
                  simp_all <;> (rw [Bool.eq_iff_iff, beq_iff_eq, decide_eq_true_eq]; try omega)
              )
            · by_cases h14 : 14 < op
              · have ha : arity op = -1 := by unfold arity; rw [if_neg (by omega), if_neg h15, if_neg h16, if_neg (by omega)]
                rw [ha] at HRF
                have hk0 : ¬ (kl : Int) = -1 := by omega
                clear ha
                obtain ⟨c0, f0⟩ := D.out 0 _ rfl
                obtain ⟨c2, f2⟩ := D.out 2 _ rfl
                obtain ⟨c3, f3⟩ := D.out 3 _ rfl
                obtain ⟨c4, f4⟩ := D.out 4 _ rfl
                obtain ⟨c5, f5⟩ := D.out 5 _ rfl
                obtain ⟨c6, f6⟩ := D.out 6 _ rfl
                obtain ⟨c7, f7⟩ := D.out 7 _ rfl
                obtain ⟨c8, f8⟩ := D.out 8 _ rfl
                obtain ⟨c9, f9⟩ := D.out 9 _ rfl
                cases E <;>
                cases b <;>
                (
                  go_wp2_with (first
                    | ((with_reducible show Calls _ 93 _ _ _); refine (KV.out _).mono ?_; rintro _ v1 ⟨rfl, hb⟩; have D2 := D.out.bel (Nat.succ_pos _) hb; replace B := Lib.hid (B.out.trans (hb.mono B.out.size)); clear hb; obtain ⟨c3, f3⟩ := D2 3 _ rfl; obtain ⟨c5, f5⟩ := D2 5 _ rfl; obtain ⟨c6, f6⟩ := D2 6 _ rfl; obtain ⟨c7, f7⟩ := D2 7 _ rfl; obtain ⟨c8, f8⟩ := D2 8 _ rfl; obtain ⟨c9, f9⟩ := D2 9 _ rfl; replace D := Lib.hid D2; clear D2)
                    | ((with_reducible show Calls _ 59 _ _ _); refine (KB.out _).mono ?_; rintro _ v2 ⟨rfl, hb⟩; have D2 := D.out.bel (Nat.succ_pos _) hb; replace B := Lib.hid (B.out.trans (hb.mono B.out.size)); clear hb; obtain ⟨c9, f9⟩ := D2 9 _ rfl; replace D := Lib.hid D2; clear D2)
                    | ((with_reducible show Calls _ 58 _ _ _); refine (KN.out _).mono ?_; rintro _ v3 ⟨rfl, hw⟩; obtain rfl := hw.symm))
                  all_goals
                    go_ret
                    refine ⟨ret_bool ?_, B.out⟩
                    rw [HRF.out]
                    simp_all <;> (rw [Bool.eq_iff_iff, beq_iff_eq, decide_eq_true_eq]; try omega)
                )
              · have ha : arity op = 2 := by unfold arity; rw [if_neg (by omega), if_neg h15, if_neg h16, if_pos (by omega)]
                rw [ha] at HRF
                clear ha
                obtain ⟨c0, f0⟩ := D.out 0 _ rfl
                obtain ⟨c2, f2⟩ := D.out 2 _ rfl
                obtain ⟨c3, f3⟩ := D.out 3 _ rfl
                obtain ⟨c4, f4⟩ := D.out 4 _ rfl
                obtain ⟨c5, f5⟩ := D.out 5 _ rfl
                obtain ⟨c6, f6⟩ := D.out 6 _ rfl
                obtain ⟨c7, f7⟩ := D.out 7 _ rfl
                obtain ⟨c8, f8⟩ := D.out 8 _ rfl
                obtain ⟨c9, f9⟩ := D.out 9 _ rfl
                cases E <;>
                cases b <;>
                (
                  go_wp2_with (first
                    | ((with_reducible show Calls _ 93 _ _ _); refine (KV.out _).mono ?_; rintro _ v1 ⟨rfl, hb⟩; have D2 := D.out.bel (Nat.succ_pos _) hb; replace B := Lib.hid (B.out.trans (hb.mono B.out.size)); clear hb; obtain ⟨c3, f3⟩ := D2 3 _ rfl; obtain ⟨c5, f5⟩ := D2 5 _ rfl; obtain ⟨c6, f6⟩ := D2 6 _ rfl; obtain ⟨c7, f7⟩ := D2 7 _ rfl; obtain ⟨c8, f8⟩ := D2 8 _ rfl; obtain ⟨c9, f9⟩ := D2 9 _ rfl; replace D := Lib.hid D2; clear D2)
                    | ((with_reducible show Calls _ 59 _ _ _); refine (KB.out _).mono ?_; rintro _ v2 ⟨rfl, hb⟩; have D2 := D.out.bel (Nat.succ_pos _) hb; replace B := Lib.hid (B.out.trans (hb.mono B.out.size)); clear hb; obtain ⟨c9, f9⟩ := D2 9 _ rfl; replace D := Lib.hid D2; clear D2)
                    | ((with_reducible show Calls _ 58 _ _ _); refine (KN.out _).mono ?_; rintro _ v3 ⟨rfl, hw⟩; obtain rfl := hw.symm))
                  all_goals
                    go_ret
                    refine ⟨ret_bool ?_, B.out⟩
                    rw [HRF.out]
                    simp_all <;> (rw [Bool.eq_iff_iff, beq_iff_eq, decide_eq_true_eq]; try omega)
                )
end Go.Proofs.Ytjifiijgghpniaa
/-
  Contracts of the reference of units: small ones.
-/
namespace Go.Proofs.Ytjifiijgghpniaa
open Go.RowKit Un

set_option maxRecDepth 100000 in
set_option maxHeartbeats 4000000 in
theorem rexponent_any (n : Int) (w : World) : Calls Try.prog 92 #[.int .i64 n] w fun e w' => e = .returned (.bool (decide (-3 ≤ n) && decide (n ≤ 3))) ∧ w' = w := by
  by_cases h1 : -3 ≤ n <;> by_cases h2 : n ≤ 3 <;>
  (
    go_enter Try.func92, Try.ntmps92
    go_wp2_with fail
    all_goals
      go_ret
      exact ⟨ret_bool (by simp [h1, h2]), rfl⟩
  )
set_option maxRecDepth 100000 in
set_option maxHeartbeats 4000000 in
theorem rScoped_any (k : Int) (w : World) : Calls Try.prog 29 #[.int .i64 k] w fun e w' => e = .returned (.bool (decide (k = 3) || decide (k = 4) || decide (k = 6) || decide (k = 7))) ∧ w' = w := by
  by_cases h1 : k = 3
  · subst h1
    go_enter Try.func29, Try.ntmps29
    go_wp2_with fail
    all_goals
      go_ret
      exact ⟨ret_bool (by decide), rfl⟩
  · have e1 : (k == 3) = false := by simpa using h1
    by_cases h2 : k = 4
    · subst h2
      go_enter Try.func29, Try.ntmps29
      go_wp2_with fail
      all_goals
        go_ret
        exact ⟨ret_bool (by decide), rfl⟩
    · have e2 : (k == 4) = false := by simpa using h2
      by_cases h3 : k = 6
      · subst h3
        go_enter Try.func29, Try.ntmps29
        go_wp2_with fail
        all_goals
          go_ret
          exact ⟨ret_bool (by decide), rfl⟩
      · have e3 : (k == 6) = false := by simpa using h3
        go_enter Try.func29, Try.ntmps29
        go_wp2_with fail
        all_goals
          go_ret
          exact ⟨ret_bool (by rw [Bool.eq_iff_iff]; simp [h1, h2, h3]), rfl⟩
set_option maxRecDepth 100000 in
set_option maxHeartbeats 4000000 in
theorem roperands_any (op : Int) (w : World) : Calls Try.prog 68 #[.int .i64 op] w fun e w' => e = .returned (.int .i64 (arity op)) ∧ w' = w := by
  obtain ⟨R, hR⟩ : ∃ R, R = arity op := ⟨_, rfl⟩
  rw [← hR]
  have HR := Lib.hid hR
  clear hR
  by_cases h1 : op = 1
  · subst h1
    go_enter Try.func68, Try.ntmps68
    go_wp2_with fail
    all_goals
      go_ret
      exact ⟨ret_i64 (by rw [HR.out]; rfl), rfl⟩
  · have e1 : (op == 1) = false := by simpa using h1
    by_cases h2 : op = 2
    · subst h2
      go_enter Try.func68, Try.ntmps68
      go_wp2_with fail
      all_goals
        go_ret
        exact ⟨ret_i64 (by rw [HR.out]; rfl), rfl⟩
    · have e2 : (op == 2) = false := by simpa using h2
      by_cases h17 : op = 17
      · subst h17
        go_enter Try.func68, Try.ntmps68
        go_wp2_with fail
        all_goals
          go_ret
          exact ⟨ret_i64 (by rw [HR.out]; rfl), rfl⟩
      · have e17 : (op == 17) = false := by simpa using h17
        by_cases h15 : op = 15
        · subst h15
          go_enter Try.func68, Try.ntmps68
          go_wp2_with fail
          all_goals
            go_ret
            exact ⟨ret_i64 (by rw [HR.out]; rfl), rfl⟩
        · have e15 : (op == 15) = false := by simpa using h15
          by_cases h16 : op = 16
          · subst h16
            go_enter Try.func68, Try.ntmps68
            go_wp2_with fail
            all_goals
              go_ret
              exact ⟨ret_i64 (by rw [HR.out]; rfl), rfl⟩
          · have e16 : (op == 16) = false := by simpa using h16
            by_cases h3 : 3 ≤ op <;> by_cases h14 : op ≤ 14 <;>
            (
              go_enter Try.func68, Try.ntmps68
              go_wp2_with fail
              all_goals
                go_ret
                exact ⟨ret_i64 (by rw [HR.out]; unfold arity; simp [h1, h2, h15, h16, h17, h3, h14]), rfl⟩
            )
set_option maxRecDepth 100000 in
set_option maxHeartbeats 4000000 in
theorem rplain_any (op pl : Int) (nm : List UInt8) (n d : Int) (u : U) (q : Option Addr) (kl c : Nat) (w : World) :
    Calls Try.prog 69 #[.agg #[.int .i64 op, .int .i64 pl, .string (bs nm), .int .i64 n, .int .i64 d, .bool u.f, .int .i64 u.m, .int .i64 u.a, .int .i64 u.d, .slice q kl c]] w fun e w' => e = .returned (.bool (nm.isEmpty && (n == 0 && d == 0) && u == uNum)) ∧ RowKit.Below w.heap.size w w' := by
  have HB := Lib.hid (Below.refl w.heap.size w)
  have e1 := nm_test nm
  obtain ⟨E, hE⟩ : ∃ E, nm.isEmpty = E := ⟨_, rfl⟩
  rw [hE] at e1
  rw [hE]
  clear hE
  generalize bs nm = s at *
  obtain ⟨f, m, a, z⟩ := u
  simp only
  obtain ⟨R, hR⟩ : ∃ R, R = (E && (n == 0 && d == 0) && (⟨f, m, a, z⟩ : U) == uNum) := ⟨_, rfl⟩
  rw [← hR]
  have HR := Lib.hid hR
  clear hR
  cases E <;> cases f <;>
  (
    go_enter Try.func69, Try.ntmps69
    go_wp2_with fail
    all_goals
      go_ret
      refine ⟨ret_bool ?_, (by repeat' (first | (with_reducible exact HB.out) | (with_reducible refine Below.setCell ?_ ?_ _) | (with_reducible refine Below.alloc ?_ ?_ _) | (with_reducible refine Below.drew ?_) | (with_reducible refine below_drewN ?_ _) | (with_reducible exact Below.refl _ _) | omega | (simp; done) | (simp; omega)))⟩
      rw [HR.out]
      simp_all [uNum]
  )
end Go.Proofs.Ytjifiijgghpniaa
/-
  Contracts of the laws' helpers on units.
-/
namespace Go.Proofs.Ytjifiijgghpniaa
open Go.RowKit Un

set_option maxRecDepth 100000 in
set_option maxHeartbeats 4000000 in
theorem lfact_any (s : ByteArray) (p : Int) (w : World) : Calls Try.prog 31 #[.string s, .int .i64 p] w fun e w' => e = .returned (.agg #[.int .i64 2, .int .i64 p, .string s, .int .i64 0, .int .i64 0, .bool false, .int .i64 0, .int .i64 0, .int .i64 0, .slice none 0 0]) ∧ RowKit.Below w.heap.size w w' := by
  have HB := Lib.hid (Below.refl w.heap.size w)
  go_enter Try.func31, Try.ntmps31
  go_wp2_with fail
  exact bodyPost_ret (v := .agg #[.int .i64 2, .int .i64 p, .string s, .int .i64 0, .int .i64 0, .bool false, .int .i64 0, .int .i64 0, .int .i64 0, .slice none 0 0]) (by simp [results, Try.results31, go_sem]) rfl ⟨rfl, (by repeat' (first | (with_reducible exact HB.out) | (with_reducible refine Below.setCell ?_ ?_ _) | (with_reducible refine Below.alloc ?_ ?_ _) | (with_reducible refine Below.drew ?_) | (with_reducible refine below_drewN ?_ _) | (with_reducible exact Below.refl _ _) | omega | (simp; done) | (simp; omega)))⟩
set_option maxRecDepth 100000 in
set_option maxHeartbeats 4000000 in
theorem lnumber_any (n p : Int) (w : World) : Calls Try.prog 32 #[.int .i64 n, .int .i64 p] w fun e w' => e = .returned (.agg #[.int .i64 1, .int .i64 p, .string ⟨#[]⟩, .int .i64 n, .int .i64 1, .bool false, .int .i64 0, .int .i64 0, .int .i64 0, .slice none 0 0]) ∧ RowKit.Below w.heap.size w w' := by
  have HB := Lib.hid (Below.refl w.heap.size w)
  go_enter Try.func32, Try.ntmps32
  go_wp2_with fail
  exact bodyPost_ret (v := .agg #[.int .i64 1, .int .i64 p, .string ⟨#[]⟩, .int .i64 n, .int .i64 1, .bool false, .int .i64 0, .int .i64 0, .int .i64 0, .slice none 0 0]) (by simp [results, Try.results32, go_sem]) rfl ⟨rfl, (by repeat' (first | (with_reducible exact HB.out) | (with_reducible refine Below.setCell ?_ ?_ _) | (with_reducible refine Below.alloc ?_ ?_ _) | (with_reducible refine Below.drew ?_) | (with_reducible refine below_drewN ?_ _) | (with_reducible exact Below.refl _ _) | omega | (simp; done) | (simp; omega)))⟩
set_option maxRecDepth 100000 in
set_option maxHeartbeats 8000000 in
theorem lsmall_any (u : U) (hm : -9 ≤ u.m ∧ u.m ≤ 9) (ha : -9 ≤ u.a ∧ u.a ≤ 9) (hd : -9 ≤ u.d ∧ u.d ≤ 9) (w : World) : Calls Try.prog 25 #[.agg #[.bool u.f, .int .i64 u.m, .int .i64 u.a, .int .i64 u.d]] w fun e w' => e = .returned (.bool (small u)) ∧ RowKit.Below w.heap.size w w' := by
  have HB := Lib.hid (Below.refl w.heap.size w)
  obtain ⟨f, m, a, d⟩ := u
  simp only at hm ha hd ⊢
  obtain ⟨R, hR⟩ : ∃ R, R = small ⟨f, m, a, d⟩ := ⟨_, rfl⟩
  rw [← hR]
  have HR : Hid (R = (!f && decide (-1 ≤ m) && decide (m ≤ 1) && decide (-1 ≤ a) && decide (a ≤ 1) && decide (-1 ≤ d) && decide (d ≤ 1))) := hR
  clear hR
  have e1 : IntKind.i64.wrap (-m) = -m := by rw [IntWalk.i64_in _ (by omega)]
  have e2 : IntKind.i64.wrap (-a) = -a := by rw [IntWalk.i64_in _ (by omega)]
  have e3 : IntKind.i64.wrap (-d) = -d := by rw [IntWalk.i64_in _ (by omega)]
  have E1 := Lib.hid e1
  have E2 := Lib.hid e2
  have E3 := Lib.hid e3
  cases f with
  | true =>
    go_enter Try.func25, Try.ntmps25
    go_wp2_with fail
    all_goals
      go_ret
      exact ⟨ret_bool (by rw [HR.out]; rfl), (by repeat' (first | (with_reducible exact HB.out) | (with_reducible refine Below.setCell ?_ ?_ _) | (with_reducible refine Below.alloc ?_ ?_ _) | (with_reducible refine Below.drew ?_) | (with_reducible refine below_drewN ?_ _) | (with_reducible exact Below.refl _ _) | omega | (simp; done) | (simp; omega)))⟩
  | false =>
    go_enter Try.func25, Try.ntmps25
    go_wp2_with fail
    all_goals
      go_ret
      refine ⟨ret_bool ?_, (by repeat' (first | (with_reducible exact HB.out) | (with_reducible refine Below.setCell ?_ ?_ _) | (with_reducible refine Below.alloc ?_ ?_ _) | (with_reducible refine Below.drew ?_) | (with_reducible refine below_drewN ?_ _) | (with_reducible exact Below.refl _ _) | omega | (simp; done) | (simp; omega)))⟩
      rw [HR.out, Bool.eq_iff_iff]
      simp only [Bool.and_eq_true, decide_eq_true_eq, Bool.not_false, Bool.false_eq_true]
      have g1 := E1.out
      have g2 := E2.out
      have g3 := E3.out
      first | omega | (simp; omega)
end Go.Proofs.Ytjifiijgghpniaa
/-
  Contract of the laws on units: mentions.
-/
namespace Go.Proofs.Ytjifiijgghpniaa
open Go.RowKit Un

theorem size_get : ∀ (ks : List Nd) (i : Nat) (h : i < ks.length), size ks[i] ≤ sizes ks
  | [], i, h => absurd h (Nat.not_lt_zero _)
  | k :: ks, 0, _ => by simp only [List.getElem_cons_zero, sizes]; omega
  | k :: ks, i + 1, h => by
    have := size_get ks i (by simpa using h)
    simp only [List.getElem_cons_succ, sizes]
    omega
theorem ments_drop (s : List UInt8) (ks : List Nd) (i : Nat) (h : i < ks.length) : mentionss s (ks.drop i) = (mentions s ks[i] || mentionss s (ks.drop (i + 1))) := by
  rw [List.drop_eq_getElem_cons h]
  rfl
set_option maxRecDepth 100000 in
set_option maxHeartbeats 8000000 in
theorem lmentions_any (N : Nat) : ∀ (t : Nd), size t ≤ N → ∀ (A : Nat → Prop) (x : Kd) (y : List UInt8) (w : World), NdM w A t x → Calls Try.prog 21 #[nV t x, .string (bs y)] w fun e w' => e = .returned (.bool (mentions y t)) ∧ RowKit.Below w.heap.size w w' := by
  induction N with
  | zero => intro t h; cases t; simp [size] at h
  | succ N ih =>
    intro t hN A x y w hx
    obtain ⟨op, pl, nm, n0, d0, ⟨uf, um, ua, ud⟩, ks⟩ := t
    simp only [size] at hN
    simp only [NdM] at hx
    obtain ⟨bq, off, hp, hkl, hK⟩ := hx
    obtain ⟨xq, xc⟩ := x
    simp only at hp
    have KM := Lib.hid (fun (i : Nat) (hi : i < ks.length) => ih ks[i] (by have := size_get ks i hi; omega) A)
    clear ih
    obtain ⟨R, hR⟩ : ∃ R, R = mentions y (.mk op pl nm n0 d0 ⟨uf, um, ua, ud⟩ ks) := ⟨_, rfl⟩
    rw [← hR]
    have HR : Hid (R = ((decide (op = 2) && nm == y) || mentionss y ks)) := hR
    clear hR
    show Calls _ _ #[.agg #[.int .i64 op, .int .i64 pl, .string (bs nm), .int .i64 n0, .int .i64 d0, .bool uf, .int .i64 um, .int .i64 ua, .int .i64 ud, .slice xq ks.length xc], .string (bs y)] _ _
    have e0 : ((bs nm).toList == (bs y).toList) = (nm == y) := by rw [bs_list, bs_list]
    obtain ⟨E, hE⟩ : ∃ E, (nm == y) = E := ⟨_, rfl⟩
    rw [hE] at e0 HR
    clear hE
    generalize bs nm = s at *
    obtain ⟨W1, hW1⟩ : ∃ W1, W1 = w.alloc (.cells #[.int .i64 op, .int .i64 pl, .string s, .int .i64 n0, .int .i64 d0, .bool uf, .int .i64 um, .int .i64 ua, .int .i64 ud, .slice xq ks.length xc] 32) := ⟨_, rfl⟩
    have HB : Hid (RowKit.Below w.heap.size w W1 ∧ W1.cell? ⟨w.heap.size, 9, none⟩ = some (.slice xq ks.length xc)) := by rw [hW1]; exact ⟨(Below.refl _ _).alloc (Nat.le_refl _) _, by simp⟩
    have HK := Lib.hid hK
    have HP := Lib.hid hp
    clear hK hp
    by_cases h2 : op = 2
    · subst h2
      cases E with
      | true =>
        have HRF : Hid (R = true) := by show _ = _; rw [HR.out]; simp
        go_enter Try.func21, Try.ntmps21
        go_wp2_with fail
        go_ret
        rw [← hW1]
        exact ⟨ret_bool HRF.out.symm, HB.out.1⟩
      | false =>
        have HCC : Hid ((decide ((2 : Int) = 2) && false) = false) := rfl
        go_enter Try.func21, Try.ntmps21
        go_wp2_with fail
        rw [← hW1]
        have hsz : W1.heap.size = w.heap.size + 1 := by rw [hW1]; simp
        clear hW1
        go_loopg [5] ks.length (fun g v5 wr => ∃ i : Nat, i ≤ ks.length ∧ ks.length - i ≤ g ∧ v5 = .int .i64 i ∧ Hid (mentionss y ks = mentionss y (ks.drop i)) ∧ Hid (RowKit.Below W1.heap.size W1 wr))
        case atStart => exact ⟨0, Nat.zero_le _, by omega, by simp, rfl, Below.refl _ _⟩
        case round =>
          obtain ⟨i, hi, hg, rfl, HM, HW⟩ := hrel
          have q9 : wr.cell? ⟨w.heap.size, 9, none⟩ = some (.slice xq ks.length xc) := (HW.out.cell (p := ⟨w.heap.size, 9, none⟩) (by show w.heap.size < W1.heap.size; omega)).trans HB.out.2
          have HW2 := Lib.hid (HB.out.1.trans (HW.out.mono (by omega)))
          by_cases hlt : i < ks.length
          · have hz : (i : Int) < (ks.length : Int) := by omega
            have hq := (HP.out (by omega)).1
            have hbq := (HP.out (by omega)).2.2
            subst hq
            obtain ⟨⟨yq, yc⟩, hc, hn⟩ := KdM.get (KdM.keep HW2.out.size (fun j _ hj => HW2.out.block j hj) (fun _ h _ => h) bq (HP.out (by omega)).2.1 hbq off ks HK.out) i hlt
            have KQ := Lib.hid (KM.out i hlt _ y _ hn)
            have E3 := Lib.hid (HM.out.trans (ments_drop y ks i hlt))
            clear hn
            generalize ks[i] = k at *
            obtain ⟨op', pl', nm', n', d', ⟨uf', um', ua', ud'⟩, ks'⟩ := k
            generalize mentions y (.mk op' pl' nm' n' d' ⟨uf', um', ua', ud'⟩ ks') = mi at *
            simp only [nC] at hc
            have z0 := hc 0 _ rfl
            have z1 := hc 1 _ rfl
            have z2 := hc 2 _ rfl
            have z3 := hc 3 _ rfl
            have z4 := hc 4 _ rfl
            have z5 := hc 5 _ rfl
            have z6 := hc 6 _ rfl
            have z7 := hc 7 _ rfl
            have z8 := hc 8 _ rfl
            have z9 := hc 9 _ rfl
            rw [Nat.add_zero] at z0
            have e2 : IntKind.i64.wrap ((i : Int) + 1) = ((i + 1 : Nat) : Int) := by rw [IntWalk.i64_in _ (by omega)]; rfl
            clear hc
            go_wp2_with fail
            clear z0 z1 z2 z3 z4 z5 z6 z7 z8 z9 q9
            refine KQ.out.mono ?_
            rintro _ v ⟨rfl, hb⟩
            have HW3 := Lib.hid (HW.out.trans (hb.mono HW.out.size))
            clear hb HW2 KQ
            cases mi with
            | true =>
              go_wp2_with fail
              go_ret
              exact ⟨ret_bool (by rw [HR.out, E3.out]; simp), HB.out.1.trans (HW3.out.mono (by omega))⟩
            | false =>
              go_wp2_with fail
              all_goals
                go_roundg (ks.length - (i + 1))
                case measure => omega
                case rel => exact ⟨i + 1, by omega, Nat.le_refl _, by simp, by rw [E3.out]; rfl, HW3⟩
          · have hz : ¬ (i : Int) < (ks.length : Int) := by omega
            have hie : i = ks.length := by omega
            subst hie
            go_wp2_with fail
            go_ret
            exact ⟨ret_bool (by rw [HR.out, HM.out, List.drop_length, HCC.out]; rfl), HW2.out⟩
    · have e1 : (op == 2) = false := by simpa using h2
      have HCC : Hid ((decide (op = 2) && E) = false) := by show _ = _; rw [decide_eq_false h2]; rfl
      go_enter Try.func21, Try.ntmps21
      go_wp2_with fail
      rw [← hW1]
      have hsz : W1.heap.size = w.heap.size + 1 := by rw [hW1]; simp
      clear hW1
      go_loopg [5] ks.length (fun g v5 wr => ∃ i : Nat, i ≤ ks.length ∧ ks.length - i ≤ g ∧ v5 = .int .i64 i ∧ Hid (mentionss y ks = mentionss y (ks.drop i)) ∧ Hid (RowKit.Below W1.heap.size W1 wr))
      case atStart => exact ⟨0, Nat.zero_le _, by omega, by simp, rfl, Below.refl _ _⟩
      case round =>
        obtain ⟨i, hi, hg, rfl, HM, HW⟩ := hrel
        have q9 : wr.cell? ⟨w.heap.size, 9, none⟩ = some (.slice xq ks.length xc) := (HW.out.cell (p := ⟨w.heap.size, 9, none⟩) (by show w.heap.size < W1.heap.size; omega)).trans HB.out.2
        have HW2 := Lib.hid (HB.out.1.trans (HW.out.mono (by omega)))
        by_cases hlt : i < ks.length
        · have hz : (i : Int) < (ks.length : Int) := by omega
          have hq := (HP.out (by omega)).1
          have hbq := (HP.out (by omega)).2.2
          subst hq
          obtain ⟨⟨yq, yc⟩, hc, hn⟩ := KdM.get (KdM.keep HW2.out.size (fun j _ hj => HW2.out.block j hj) (fun _ h _ => h) bq (HP.out (by omega)).2.1 hbq off ks HK.out) i hlt
          have KQ := Lib.hid (KM.out i hlt _ y _ hn)
          have E3 := Lib.hid (HM.out.trans (ments_drop y ks i hlt))
          clear hn
          generalize ks[i] = k at *
          obtain ⟨op', pl', nm', n', d', ⟨uf', um', ua', ud'⟩, ks'⟩ := k
          generalize mentions y (.mk op' pl' nm' n' d' ⟨uf', um', ua', ud'⟩ ks') = mi at *
          simp only [nC] at hc
          have z0 := hc 0 _ rfl
          have z1 := hc 1 _ rfl
          have z2 := hc 2 _ rfl
          have z3 := hc 3 _ rfl
          have z4 := hc 4 _ rfl
          have z5 := hc 5 _ rfl
          have z6 := hc 6 _ rfl
          have z7 := hc 7 _ rfl
          have z8 := hc 8 _ rfl
          have z9 := hc 9 _ rfl
          rw [Nat.add_zero] at z0
          have e2 : IntKind.i64.wrap ((i : Int) + 1) = ((i + 1 : Nat) : Int) := by rw [IntWalk.i64_in _ (by omega)]; rfl
          clear hc
          go_wp2_with fail
          clear z0 z1 z2 z3 z4 z5 z6 z7 z8 z9 q9
          refine KQ.out.mono ?_
          rintro _ v ⟨rfl, hb⟩
          have HW3 := Lib.hid (HW.out.trans (hb.mono HW.out.size))
          clear hb HW2 KQ
          cases mi with
          | true =>
            go_wp2_with fail
            go_ret
            exact ⟨ret_bool (by rw [HR.out, E3.out]; simp), HB.out.1.trans (HW3.out.mono (by omega))⟩
          | false =>
            go_wp2_with fail
            all_goals
              go_roundg (ks.length - (i + 1))
              case measure => omega
              case rel => exact ⟨i + 1, by omega, Nat.le_refl _, by simp, by rw [E3.out]; rfl, HW3⟩
        · have hz : ¬ (i : Int) < (ks.length : Int) := by omega
          have hie : i = ks.length := by omega
          subst hie
          go_wp2_with fail
          go_ret
          exact ⟨ret_bool (by rw [HR.out, HM.out, List.drop_length, HCC.out]; rfl), HW2.out⟩
end Go.Proofs.Ytjifiijgghpniaa
/-
  Contract of units: isTree.
-/
namespace Go.Proofs.Ytjifiijgghpniaa
open Go.RowKit Un

mutual
/-- Do all numbers of a node fit? -/
def nin : Nd → Prop
  | .mk _ _ _ n d _ ks => in64 n ∧ in64 d ∧ nins ks
def nins : List Nd → Prop
  | [] => True
  | k :: ks => nin k ∧ nins ks
end
theorem nins_get : ∀ (ks : List Nd) (i : Nat) (h : i < ks.length), nins ks → nin ks[i]
  | [], i, h, _ => absurd h (Nat.not_lt_zero _)
  | k :: _, 0, _, h => by simp only [nins] at h; exact h.1
  | _ :: ks, i + 1, hi, h => by
    simp only [nins] at h
    exact nins_get ks i (by simpa using hi) h.2
theorem trs_drop (dep : Int) (c : Nat) (ks : List Nd) (i : Nat) (h : i < ks.length) : trs vld dep c (ks.drop i) = if (tr vld dep c ks[i]).1 = false then (false, (tr vld dep c ks[i]).2) else trs vld dep (tr vld dep c ks[i]).2 (ks.drop (i + 1)) := by
  rw [List.drop_eq_getElem_cons h]
  rfl
set_option maxRecDepth 100000 in
set_option maxHeartbeats 12000000 in
theorem uisTree_any (N : Nat) : ∀ (t : Nd), size t ≤ N → nin t → ∀ (dep : Int) (c : Nat), 1 ≤ dep → dep ≤ 21 → c ≤ 200 → ∀ (A : Nat → Prop) (x : Kd) (cb : Nat) (w : World), NdM w A t x → ¬ A cb → w.cell? ⟨cb, 0, none⟩ = some (.int .i64 (c : Nat)) → w.frozen? ⟨cb, 0, none⟩ = false →
    Calls Try.prog 61 #[nV t x, .int .i64 dep, .pointer (some ⟨cb, 0, none⟩)] w fun e w' => e = .returned (.bool (tr vld dep c t).1) ∧ w'.cell? ⟨cb, 0, none⟩ = some (.int .i64 ((tr vld dep c t).2 : Nat)) ∧ w'.frozen? ⟨cb, 0, none⟩ = false ∧ Kept cb w w' := by
  induction N with
  | zero => intro t h; cases t; simp [size] at h
  | succ N ih =>
    intro t hN hin dep c hd1 hd2 hc A x cb w hx hA c0 f0
    obtain ⟨op, pl, nm, n0, d0, ⟨uf, um, ua, ud⟩, ks⟩ := t
    simp only [size] at hN
    simp only [NdM] at hx
    simp only [nin] at hin
    obtain ⟨bq, off, hp, hkl, hK⟩ := hx
    obtain ⟨xq, xc⟩ := x
    simp only at hp
    have hcb : cb < w.heap.size := World.block_lt_of_cell? _ _ c0
    have KM := Lib.hid (fun (i : Nat) (hi : i < ks.length) (ci : Nat) (h2 : dep ≤ 20) (h3 : ci ≤ 200) (x : Kd) (V : World) => ih ks[i] (by have := size_get ks i hi; omega) (nins_get ks i hi hin.2.2) (dep + 1) ci (by omega) (by omega) h3 A x cb V)
    clear ih
    have KN := Lib.hid (fun w => uisNode_any op pl nm n0 d0 ⟨uf, um, ua, ud⟩ xq ks.length xc hin.1 hin.2.1 hkl w)
    have HRB := Lib.hid (fun (ci : Nat) (i : Nat) (hi : i < ks.length) => (tr_eq (V := vld) (dep + 1) (by omega) ks[i] ci))
    obtain ⟨R, hR⟩ : ∃ R, R = tr vld dep c (.mk op pl nm n0 d0 ⟨uf, um, ua, ud⟩ ks) := ⟨_, rfl⟩
    rw [← hR]
    rw [tr, okN_eq] at hR
    show Calls _ _ #[.agg #[.int .i64 op, .int .i64 pl, .string (bs nm), .int .i64 n0, .int .i64 d0, .bool uf, .int .i64 um, .int .i64 ua, .int .i64 ud, .slice xq ks.length xc], .int .i64 dep, .pointer (some ⟨cb, 0, none⟩)] _ _
    generalize okN op nm n0 d0 ⟨uf, um, ua, ud⟩ ks.length = ok at *
    obtain ⟨c1, hc1⟩ : ∃ c1, c1 = c + 1 := ⟨_, rfl⟩
    rw [← hc1] at hR
    have e1 : IntKind.i64.wrap ((c : Int) + 1) = (c1 : Int) := by rw [IntWalk.i64_in _ (by omega)]; omega
    have HR := Lib.hid hR
    have HA := Lib.hid hA
    have H1 := Lib.hid hc1
    have hc2 : c1 ≤ 201 := by omega
    clear hR hin hA hc1
    simp only at KN
    generalize bs nm = s at *
    obtain ⟨W1, hW1⟩ : ∃ W1, W1 = (w.setCell ⟨cb, 0, none⟩ (.int .i64 (c1 : Nat))).alloc (.cells #[.int .i64 op, .int .i64 pl, .string s, .int .i64 n0, .int .i64 d0, .bool uf, .int .i64 um, .int .i64 ua, .int .i64 ud, .slice xq ks.length xc] 32) := ⟨_, rfl⟩
    have ha := Below.refl (w.setCell ⟨cb, 0, none⟩ (.int .i64 (c1 : Nat))).heap.size (w.setCell ⟨cb, 0, none⟩ (.int .i64 (c1 : Nat)))
    have ha := ha.alloc (Nat.le_refl _) (.cells #[.int .i64 op, .int .i64 pl, .string s, .int .i64 n0, .int .i64 d0, .bool uf, .int .i64 um, .int .i64 ua, .int .i64 ud, .slice xq ks.length xc] 32)
    have hcs : cb < (w.setCell ⟨cb, 0, none⟩ (.int .i64 (c1 : Nat))).heap.size := by simpa [World.setCell] using hcb
    have HB : Hid (Kept cb w W1) := by rw [hW1]; exact ((Kept.refl cb w).setCell _ _ _).bel ha
    have HC : Hid (W1.cell? ⟨cb, 0, none⟩ = some (.int .i64 (c1 : Nat)) ∧ W1.frozen? ⟨cb, 0, none⟩ = false) := by
      rw [hW1]
      exact ⟨(ha.cell (p := ⟨cb, 0, none⟩) hcs).trans (World.cell?_setCell_same _ _ _ c0), (ha.frozen (p := ⟨cb, 0, none⟩) hcs).trans (by rw [World.frozen?_setCell]; exact f0)⟩
    have HQ0 : Hid (W1.cell? ⟨w.heap.size, 9, none⟩ = some (.slice xq ks.length xc)) := by
      have h9 : ∀ V : World, (V.alloc (.cells #[.int .i64 op, .int .i64 pl, .string s, .int .i64 n0, .int .i64 d0, .bool uf, .int .i64 um, .int .i64 ua, .int .i64 ud, .slice xq ks.length xc] 32)).cell? ⟨V.heap.size, 9, none⟩ = some (.slice xq ks.length xc) := fun V => by simp
      have hs9 : (w.setCell ⟨cb, 0, none⟩ (.int .i64 (c1 : Nat))).heap.size = w.heap.size := by simp [World.setCell]
      have h10 := h9 (w.setCell ⟨cb, 0, none⟩ (.int .i64 (c1 : Nat)))
      rw [hs9] at h10
      rw [hW1]
      exact h10
    clear ha hcs
    have HK := Lib.hid hK
    have HP := Lib.hid hp
    clear hK hp
    by_cases h1 : 200 < c1
    · have z1 : (200 : Int) < (c1 : Int) := by omega
      have HRF : Hid (R = (false, c1)) := by show _ = _; rw [HR.out, if_pos (.inl h1)]
      go_enter Try.func61, Try.ntmps61
      go_wp2_with fail
      go_ret
      rw [← hW1]
      exact ⟨ret_bool (by rw [HRF.out]), by rw [HRF.out]; exact HC.out.1, HC.out.2, HB.out⟩
    · have z1 : ¬ (200 : Int) < (c1 : Int) := by omega
      by_cases h2 : 20 < dep
      · have HRF : Hid (R = (false, c1)) := by show _ = _; rw [HR.out, if_pos (.inr (.inl h2))]
        go_enter Try.func61, Try.ntmps61
        go_wp2_with fail
        go_ret
        rw [← hW1]
        exact ⟨ret_bool (by rw [HRF.out]), by rw [HRF.out]; exact HC.out.1, HC.out.2, HB.out⟩
      · go_enter Try.func61, Try.ntmps61
        go_wp2_with fail
        rw [← hW1]
        refine (KN.out _).mono ?_
        rintro _ v1 ⟨rfl, hb⟩
        have HB1 := Lib.hid (HB.out.bel hb)
        have hc1s : cb < W1.heap.size := World.block_lt_of_cell? _ _ HC.out.1
        have HC1 : Hid (v1.cell? ⟨cb, 0, none⟩ = some (.int .i64 (c1 : Nat)) ∧ v1.frozen? ⟨cb, 0, none⟩ = false) := ⟨(hb.cell (p := ⟨cb, 0, none⟩) hc1s).trans HC.out.1, (hb.frozen (p := ⟨cb, 0, none⟩) hc1s).trans HC.out.2⟩
        have hws : w.heap.size < W1.heap.size := by rw [hW1]; simp [World.setCell]
        have HQ9 : Hid (v1.cell? ⟨w.heap.size, 9, none⟩ = some (.slice xq ks.length xc)) := (hb.cell (p := ⟨w.heap.size, 9, none⟩) hws).trans HQ0.out
        have hvs := hb.size
        clear hb hW1
        cases ok with
        | false =>
          have HRF : Hid (R = (false, c1)) := by show _ = _; rw [HR.out, if_pos (.inr (.inr rfl))]
          go_wp2_with fail
          go_ret
          exact ⟨ret_bool (by rw [HRF.out]), by rw [HRF.out]; exact HC1.out.1, HC1.out.2, HB1.out⟩
        | true =>
          have HRF : Hid (R = trs vld (dep + 1) c1 ks) := by show _ = _; rw [HR.out, if_neg (by rintro (h | h | h) <;> first | omega | cases h)]
          clear HR
          have q9 := HQ9.out
          go_wp2_with fail
          clear q9
          go_loopg [30] ks.length (fun g v30 wr => ∃ (i ci : Nat), i ≤ ks.length ∧ ks.length - i ≤ g ∧ v30 = .int .i64 i ∧ ci ≤ 200 ∧ Hid (trs vld (dep + 1) c1 ks = trs vld (dep + 1) ci (ks.drop i)) ∧ Hid (wr.cell? ⟨cb, 0, none⟩ = some (.int .i64 (ci : Nat)) ∧ wr.frozen? ⟨cb, 0, none⟩ = false) ∧ Hid (Kept cb w wr))
          case atStart => exact ⟨0, c1, Nat.zero_le _, by omega, by simp, by omega, rfl, HC1, HB1⟩
          case round =>
            obtain ⟨i, ci, hi, hg, rfl, hci, HM, HW, HKp⟩ := hrel
            by_cases hlt : i < ks.length
            · have hz : (i : Int) < (ks.length : Int) := by omega
              have hq := (HP.out (by omega)).1
              have hbq := (HP.out (by omega)).2.2
              have hAb := (HP.out (by omega)).2.1
              subst hq
              obtain ⟨⟨yq, yc⟩, hc, hn⟩ := KdM.get (KdM.keep HKp.out.size (fun j hj1 hj => HKp.out.block j hj (fun e => HA.out (e ▸ hj1))) (fun _ h _ => h) bq hAb hbq off ks HK.out) i hlt
              have hcr : cb < wr.heap.size := World.block_lt_of_cell? _ _ HW.out.1
              have KQ : Hid (∀ V, RowKit.Below wr.heap.size wr V → Calls Try.prog 61 #[nV ks[i] ⟨yq, yc⟩, .int .i64 (dep + 1), .pointer (some ⟨cb, 0, none⟩)] V fun e w' => e = .returned (.bool (tr vld (dep + 1) ci ks[i]).1) ∧ (w'.cell? ⟨cb, 0, none⟩ = some (.int .i64 ((tr vld (dep + 1) ci ks[i]).2 : Nat)) ∧ w'.frozen? ⟨cb, 0, none⟩ = false) ∧ Kept cb w w') := fun V hV =>
                (KM.out i hlt ci (by omega) hci _ V (NdM.bel hV hn) HA.out ((hV.cell (p := ⟨cb, 0, none⟩) hcr).trans HW.out.1) ((hV.frozen (p := ⟨cb, 0, none⟩) hcr).trans HW.out.2)).mono (fun _ _ ⟨a, b, c, d⟩ => ⟨a, ⟨b, c⟩, (HKp.out.bel hV).trans d⟩)
              have E3 := Lib.hid (HM.out.trans (trs_drop (dep + 1) ci ks i hlt))
              have E4 : Hid ((tr vld (dep + 1) ci ks[i]).1 = true → (tr vld (dep + 1) ci ks[i]).2 ≤ 200) := fun h => by
                have h1 := HRB.out ci i hlt
                have h2 := h1.1.1 h
                have h3 := h1.2 h
                omega
              clear hn hcr
              generalize ks[i] = k at *
              obtain ⟨op', pl', nm', n', d', ⟨uf', um', ua', ud'⟩, ks'⟩ := k
              generalize tr vld (dep + 1) ci (.mk op' pl' nm' n' d' ⟨uf', um', ua', ud'⟩ ks') = m at *
              obtain ⟨m1, m2⟩ := m
              simp only [nC] at hc
              simp only [nV, nC] at KQ
              have z0 := hc 0 _ rfl
              have z1 := hc 1 _ rfl
              have z2 := hc 2 _ rfl
              have z3 := hc 3 _ rfl
              have z4 := hc 4 _ rfl
              have z5 := hc 5 _ rfl
              have z6 := hc 6 _ rfl
              have z7 := hc 7 _ rfl
              have z8 := hc 8 _ rfl
              have z9 := hc 9 _ rfl
              rw [Nat.add_zero] at z0
              have e2 : IntKind.i64.wrap ((i : Int) + 1) = ((i + 1 : Nat) : Int) := by rw [IntWalk.i64_in _ (by omega)]; rfl
              have e3 : IntKind.i64.wrap (dep + 1) = dep + 1 := by rw [IntWalk.i64_in _ (by omega)]
              clear hc
              go_wp2_with fail
              clear z0 z1 z2 z3 z4 z5 z6 z7 z8 z9
              refine (KQ.out _ ((Below.refl _ _).alloc (Nat.le_refl _) _)).mono ?_
              rintro _ v ⟨rfl, hcc, hk⟩
              have HCC := Lib.hid hcc
              have HKK := Lib.hid hk
              clear hcc hk KQ
              cases m1 with
              | false =>
                have HRE : Hid (R = (false, m2)) := by show _ = _; rw [HRF.out, E3.out]; rfl
                go_wp2_with fail
                go_ret
                exact ⟨ret_bool (by rw [HRE.out]), by rw [HRE.out]; exact HCC.out.1, HCC.out.2, HKK.out⟩
              | true =>
                go_wp2_with fail
                all_goals
                  go_roundg (ks.length - (i + 1))
                  case measure => omega
                  case rel => exact ⟨i + 1, m2, by omega, Nat.le_refl _, by simp, E4.out trivial, by rw [E3.out]; rfl, HCC, HKK⟩
            · have hz : ¬ (i : Int) < (ks.length : Int) := by omega
              have hie : i = ks.length := by omega
              subst hie
              have HRE : Hid (R = (true, ci)) := by show _ = _; rw [HRF.out, HM.out, List.drop_length]; rfl
              go_wp2_with fail
              go_ret
              exact ⟨ret_bool (by rw [HRE.out]), by rw [HRE.out]; exact HW.out.1, HW.out.2, HKp.out⟩
end Go.Proofs.Ytjifiijgghpniaa
/-
  Contract of units: isExpr.
-/
namespace Go.Proofs.Ytjifiijgghpniaa
open Go.RowKit Un

set_option maxRecDepth 100000 in
set_option maxHeartbeats 8000000 in
theorem uisExpr_any (t : Nd) (hn : nin t) (A : Nat → Prop) (x : Kd) (w : World) (hx : NdM w A t x) :
    Calls Try.prog 42 #[nV t x] w fun e w' => e = .returned (.bool (form vld t)) ∧ RowKit.Below w.heap.size w w' := by
  have KT : Hid (∀ V, RowKit.Below w.heap.size w V → ∀ cb, w.heap.size ≤ cb → V.cell? ⟨cb, 0, none⟩ = some (.int .i64 0) → V.frozen? ⟨cb, 0, none⟩ = false → Calls Try.prog 61 #[nV t x, .int .i64 1, .pointer (some ⟨cb, 0, none⟩)] V fun e w' => e = .returned (.bool (form vld t)) ∧ RowKit.Below w.heap.size w w') := fun V hV cb hcb c0 f0 =>
    (uisTree_any (size t) t (Nat.le_refl _) hn 1 0 (by omega) (by omega) (by omega) (fun j => A j ∧ j < w.heap.size) x cb V (NdM.keep hV.size (fun j _ hj => hV.block j hj) (fun j h hj => ⟨h, hj⟩) t x hx) (fun h => by have := h.2; omega) c0 f0).mono
      (fun _ _ ⟨a, _, _, d⟩ => ⟨by rw [a, tr_form], hV.trans (d.below hcb hV.size)⟩)
  clear hx hn
  obtain ⟨op, pl, nm, n0, d0, ⟨uf, um, ua, ud⟩, ks⟩ := t
  obtain ⟨xq, xc⟩ := x
  generalize form vld (.mk op pl nm n0 d0 ⟨uf, um, ua, ud⟩ ks) = R at *
  simp only [nV, nC] at KT ⊢
  have HB := Lib.hid (Below.refl w.heap.size w)
  go_enter Try.func42, Try.ntmps42
  go_wp2_with fail
  refine (KT.out _ (by repeat' (first | (with_reducible exact HB.out) | (with_reducible refine Below.setCell ?_ ?_ _) | (with_reducible refine Below.alloc ?_ ?_ _) | (with_reducible refine Below.drew ?_) | (with_reducible refine below_drewN ?_ _) | (with_reducible exact Below.refl _ _) | omega | (simp; done) | (simp; omega))) _ (by first | omega | (simp; done) | (simp; omega)) (by simp) (by simp)).mono ?_
  rintro _ v ⟨rfl, hb⟩
  have HBB := Lib.hid hb
  clear hb KT
  go_wp2_with fail
  go_ret
  exact ⟨rfl, HBB.out⟩
end Go.Proofs.Ytjifiijgghpniaa
/-
  Contract of units: areFacts.
-/
namespace Go.Proofs.Ytjifiijgghpniaa
open Go.RowKit Un

/-- A declaration's eight cells. -/
def dC (d : Dc) : List Value := [.string (bs d.nm), .bool d.u.f, .int .i64 d.u.m, .int .i64 d.u.a, .int .i64 d.u.d, .int .i64 d.lo, .int .i64 d.hi, .int .i64 d.pl]
set_option maxRecDepth 100000 in
set_option maxHeartbeats 8000000 in
theorem uareFacts_any (L : List Dc) (p : Option Addr) (b off c : Nat) (w : World) (hS : SlR w p b off L.length 8 (L.map dC)) :
    Calls Try.prog 40 #[.slice p L.length c] w fun e w' => e = .returned (.bool (formD L)) ∧ RowKit.Below w.heap.size w w' := by
  have HB := Lib.hid (Below.refl w.heap.size w)
  have KN := Lib.hid uisName_any
  have KB := Lib.hid uisBasic_any
  have HS := Lib.hid hS
  have hmax := hS.max
  obtain ⟨R, hR⟩ : ∃ R, R = formD L := ⟨_, rfl⟩
  rw [← hR]
  have HR := Lib.hid hR
  clear hR hS
  by_cases hl : 12 < L.length
  · have hz : (12 : Int) < (L.length : Int) := by omega
    have HRF : Hid (R = false) := by show _ = _; rw [HR.out, formD, decide_eq_false (by omega)]; rfl
    go_enter Try.func40, Try.ntmps40
    go_wp2_with fail
    go_ret
    exact ⟨ret_bool HRF.out.symm, HB.out⟩
  · have hz : ¬ (12 : Int) < (L.length : Int) := by omega
    have HRF : Hid (R = L.all fun d => isName d.nm && basic d.u) := by show _ = _; rw [HR.out, formD, decide_eq_true (by omega), Bool.true_and]
    clear HR
    go_enter Try.func40, Try.ntmps40
    go_wp2_with fail
    clear hz
    go_loopg [10] L.length (fun g v10 wr => ∃ i : Nat, i ≤ L.length ∧ L.length - i ≤ g ∧ v10 = .int .i64 i ∧ Hid (R = (L.drop i).all fun d => isName d.nm && basic d.u) ∧ Hid (RowKit.Below w.heap.size w wr))
    case atStart => exact ⟨0, Nat.zero_le _, by omega, by simp, HRF, HB⟩
    case round =>
      obtain ⟨i, hi, hg, rfl, HM, HW⟩ := hrel
      have hws := HW.out.size
      by_cases hlt : i < L.length
      · have hz : (i : Int) < (L.length : Int) := by omega
        have hq := HS.out.ptr (by omega)
        subst hq
        have hr := (HS.out.bel HW.out).at_ i (dC L[i]) (by rw [List.getElem?_map, List.getElem?_eq_getElem hlt]; rfl)
        have E3 : Hid (R = ((isName L[i].nm && basic L[i].u) && (L.drop (i + 1)).all fun d => isName d.nm && basic d.u)) := by
          show _ = _
          rw [HM.out, List.drop_eq_getElem_cons hlt]
          rfl
        clear HM
        generalize L[i] = d at *
        obtain ⟨nm, ⟨uf, um, ua, ud⟩, lo, hi', pl⟩ := d
        simp only [dC] at hr
        have hc := hr.2
        have z0 := hc 0 _ rfl
        have z1 := hc 1 _ rfl
        have z2 := hc 2 _ rfl
        have z3 := hc 3 _ rfl
        have z4 := hc 4 _ rfl
        have z5 := hc 5 _ rfl
        have z6 := hc 6 _ rfl
        have z7 := hc 7 _ rfl
        rw [Nat.add_zero] at z0
        have e2 : IntKind.i64.wrap ((i : Int) + 1) = ((i + 1 : Nat) : Int) := by rw [IntWalk.i64_in _ (by omega)]; rfl
        have K1 := Lib.hid (KN.out nm)
        have K2 := Lib.hid (KB.out ⟨uf, um, ua, ud⟩)
        simp only at E3 K2
        clear hc hr
        generalize bs nm = s at *
        generalize isName nm = a at *
        generalize basic ⟨uf, um, ua, ud⟩ = bb at *
        go_wp2_with fail
        clear z0 z1 z2 z3 z4 z5 z6 z7
        refine (K1.out _).mono ?_
        rintro _ v ⟨rfl, hw⟩
        cases a with
        | false =>
          subst hw
          go_wp2_with fail
          go_ret
          exact ⟨ret_bool (by rw [E3.out]; simp), (by repeat' (first | (with_reducible exact HW.out) | (with_reducible refine Below.setCell ?_ ?_ _) | (with_reducible refine Below.alloc ?_ ?_ _) | (with_reducible refine Below.drew ?_) | (with_reducible refine below_drewN ?_ _) | (with_reducible exact Below.refl _ _) | omega | (simp; done) | (simp; omega)))⟩
        | true =>
          subst hw
          go_wp2_with fail
          refine (K2.out _).mono ?_
          rintro _ v ⟨rfl, hb⟩
          have HW3 : Hid (RowKit.Below w.heap.size w v) := Below.trans (by repeat' (first | (with_reducible exact HW.out) | (with_reducible refine Below.setCell ?_ ?_ _) | (with_reducible refine Below.alloc ?_ ?_ _) | (with_reducible refine Below.drew ?_) | (with_reducible refine below_drewN ?_ _) | (with_reducible exact Below.refl _ _) | omega | (simp; done) | (simp; omega))) (hb.mono (by have := HW.out.size; simp; omega))
          clear hb
          cases bb with
          | false =>
            go_wp2_with fail
            go_ret
            exact ⟨ret_bool (by rw [E3.out]; simp), HW3.out⟩
          | true =>
            go_wp2_with fail
            all_goals
              go_roundg (L.length - (i + 1))
              case measure => omega
              case rel => exact ⟨i + 1, by omega, Nat.le_refl _, by simp, by show _ = _; rw [E3.out]; simp, HW3⟩
      · have hz : ¬ (i : Int) < (L.length : Int) := by omega
        have hie : i = L.length := by omega
        subst hie
        go_wp2_with fail
        go_ret
        exact ⟨ret_bool (by rw [HM.out, List.drop_length]; rfl), HW.out⟩
end Go.Proofs.Ytjifiijgghpniaa
/-
  Takes and steps of a region whose order is open, number by number: the operation stands written out.
-/
namespace Go.Proofs.Ytjifiijgghpniaa
open Go.RowKit

section
variable {P : Program} {md : Region.Mode} {Q : Exit → Act → World → Prop} {S : World → Prop}
theorem tk0 {o0 : Oper} {r : List Oper} {v : Value} {fuel : Nat} {listed : Array Bool} {a : Act} {w : World} (hs : Region.noSelect (List.toArray (o0 :: r)) = true) (hf : Region.free md (List.toArray (o0 :: r)) listed 0 = true)
    (hr : (Region.ready md (List.toArray (o0 :: r)) listed).contains 0 = true) (hQ : ∀ c a w, Q (.panic c) (a.put o0.dst v) w → Q (.panic c) a w) (hy : YieldsIf P (List.toArray (o0 :: r)) S o0 v a) (hS : S w)
    (h : wpAnyH P md (List.toArray (o0 :: r)) Q S fuel (listed.setIfInBounds 0 true) (a.put o0.dst v) w) : wpAnyH P md (List.toArray (o0 :: r)) Q S (fuel + 1) listed a w := wpAnyH_take (i := 0) rfl hs hf hr hQ hy hS h
theorem st0 {o0 : Oper} {r : List Oper} {fuel : Nat} {listed : Array Bool} {a : Act} {w : World} {rs : List Nat}
    (h : ∀ K' : Act → World → Prop, Shut (∀ a w, S w → (S w → wpAnyH P md (List.toArray (o0 :: r)) Q S fuel (listed.setIfInBounds 0 true) a w) → K' a w) → if Region.wanted o0 (yielded (List.toArray (o0 :: r)) a.tmps) = true then Oper.wp P o0 a w K' Q else K' (a.put o0.dst undef) w)
    (hs : AllReadyH P md (List.toArray (o0 :: r)) Q S fuel listed a w rs) : AllReadyH P md (List.toArray (o0 :: r)) Q S fuel listed a w (0 :: rs) := AllReadyH.cons (i := 0) rfl h hs
theorem tk1 {o0 o1 : Oper} {r : List Oper} {v : Value} {fuel : Nat} {listed : Array Bool} {a : Act} {w : World} (hs : Region.noSelect (List.toArray (o0 :: o1 :: r)) = true) (hf : Region.free md (List.toArray (o0 :: o1 :: r)) listed 1 = true)
    (hr : (Region.ready md (List.toArray (o0 :: o1 :: r)) listed).contains 1 = true) (hQ : ∀ c a w, Q (.panic c) (a.put o1.dst v) w → Q (.panic c) a w) (hy : YieldsIf P (List.toArray (o0 :: o1 :: r)) S o1 v a) (hS : S w)
    (h : wpAnyH P md (List.toArray (o0 :: o1 :: r)) Q S fuel (listed.setIfInBounds 1 true) (a.put o1.dst v) w) : wpAnyH P md (List.toArray (o0 :: o1 :: r)) Q S (fuel + 1) listed a w := wpAnyH_take (i := 1) rfl hs hf hr hQ hy hS h
theorem st1 {o0 o1 : Oper} {r : List Oper} {fuel : Nat} {listed : Array Bool} {a : Act} {w : World} {rs : List Nat}
    (h : ∀ K' : Act → World → Prop, Shut (∀ a w, S w → (S w → wpAnyH P md (List.toArray (o0 :: o1 :: r)) Q S fuel (listed.setIfInBounds 1 true) a w) → K' a w) → if Region.wanted o1 (yielded (List.toArray (o0 :: o1 :: r)) a.tmps) = true then Oper.wp P o1 a w K' Q else K' (a.put o1.dst undef) w)
    (hs : AllReadyH P md (List.toArray (o0 :: o1 :: r)) Q S fuel listed a w rs) : AllReadyH P md (List.toArray (o0 :: o1 :: r)) Q S fuel listed a w (1 :: rs) := AllReadyH.cons (i := 1) rfl h hs
theorem tk2 {o0 o1 o2 : Oper} {r : List Oper} {v : Value} {fuel : Nat} {listed : Array Bool} {a : Act} {w : World} (hs : Region.noSelect (List.toArray (o0 :: o1 :: o2 :: r)) = true) (hf : Region.free md (List.toArray (o0 :: o1 :: o2 :: r)) listed 2 = true)
    (hr : (Region.ready md (List.toArray (o0 :: o1 :: o2 :: r)) listed).contains 2 = true) (hQ : ∀ c a w, Q (.panic c) (a.put o2.dst v) w → Q (.panic c) a w) (hy : YieldsIf P (List.toArray (o0 :: o1 :: o2 :: r)) S o2 v a) (hS : S w)
    (h : wpAnyH P md (List.toArray (o0 :: o1 :: o2 :: r)) Q S fuel (listed.setIfInBounds 2 true) (a.put o2.dst v) w) : wpAnyH P md (List.toArray (o0 :: o1 :: o2 :: r)) Q S (fuel + 1) listed a w := wpAnyH_take (i := 2) rfl hs hf hr hQ hy hS h
theorem st2 {o0 o1 o2 : Oper} {r : List Oper} {fuel : Nat} {listed : Array Bool} {a : Act} {w : World} {rs : List Nat}
    (h : ∀ K' : Act → World → Prop, Shut (∀ a w, S w → (S w → wpAnyH P md (List.toArray (o0 :: o1 :: o2 :: r)) Q S fuel (listed.setIfInBounds 2 true) a w) → K' a w) → if Region.wanted o2 (yielded (List.toArray (o0 :: o1 :: o2 :: r)) a.tmps) = true then Oper.wp P o2 a w K' Q else K' (a.put o2.dst undef) w)
    (hs : AllReadyH P md (List.toArray (o0 :: o1 :: o2 :: r)) Q S fuel listed a w rs) : AllReadyH P md (List.toArray (o0 :: o1 :: o2 :: r)) Q S fuel listed a w (2 :: rs) := AllReadyH.cons (i := 2) rfl h hs
theorem tk3 {o0 o1 o2 o3 : Oper} {r : List Oper} {v : Value} {fuel : Nat} {listed : Array Bool} {a : Act} {w : World} (hs : Region.noSelect (List.toArray (o0 :: o1 :: o2 :: o3 :: r)) = true) (hf : Region.free md (List.toArray (o0 :: o1 :: o2 :: o3 :: r)) listed 3 = true)
    (hr : (Region.ready md (List.toArray (o0 :: o1 :: o2 :: o3 :: r)) listed).contains 3 = true) (hQ : ∀ c a w, Q (.panic c) (a.put o3.dst v) w → Q (.panic c) a w) (hy : YieldsIf P (List.toArray (o0 :: o1 :: o2 :: o3 :: r)) S o3 v a) (hS : S w)
    (h : wpAnyH P md (List.toArray (o0 :: o1 :: o2 :: o3 :: r)) Q S fuel (listed.setIfInBounds 3 true) (a.put o3.dst v) w) : wpAnyH P md (List.toArray (o0 :: o1 :: o2 :: o3 :: r)) Q S (fuel + 1) listed a w := wpAnyH_take (i := 3) rfl hs hf hr hQ hy hS h
theorem st3 {o0 o1 o2 o3 : Oper} {r : List Oper} {fuel : Nat} {listed : Array Bool} {a : Act} {w : World} {rs : List Nat}
    (h : ∀ K' : Act → World → Prop, Shut (∀ a w, S w → (S w → wpAnyH P md (List.toArray (o0 :: o1 :: o2 :: o3 :: r)) Q S fuel (listed.setIfInBounds 3 true) a w) → K' a w) → if Region.wanted o3 (yielded (List.toArray (o0 :: o1 :: o2 :: o3 :: r)) a.tmps) = true then Oper.wp P o3 a w K' Q else K' (a.put o3.dst undef) w)
    (hs : AllReadyH P md (List.toArray (o0 :: o1 :: o2 :: o3 :: r)) Q S fuel listed a w rs) : AllReadyH P md (List.toArray (o0 :: o1 :: o2 :: o3 :: r)) Q S fuel listed a w (3 :: rs) := AllReadyH.cons (i := 3) rfl h hs
theorem tk4 {o0 o1 o2 o3 o4 : Oper} {r : List Oper} {v : Value} {fuel : Nat} {listed : Array Bool} {a : Act} {w : World} (hs : Region.noSelect (List.toArray (o0 :: o1 :: o2 :: o3 :: o4 :: r)) = true) (hf : Region.free md (List.toArray (o0 :: o1 :: o2 :: o3 :: o4 :: r)) listed 4 = true)
    (hr : (Region.ready md (List.toArray (o0 :: o1 :: o2 :: o3 :: o4 :: r)) listed).contains 4 = true) (hQ : ∀ c a w, Q (.panic c) (a.put o4.dst v) w → Q (.panic c) a w) (hy : YieldsIf P (List.toArray (o0 :: o1 :: o2 :: o3 :: o4 :: r)) S o4 v a) (hS : S w)
    (h : wpAnyH P md (List.toArray (o0 :: o1 :: o2 :: o3 :: o4 :: r)) Q S fuel (listed.setIfInBounds 4 true) (a.put o4.dst v) w) : wpAnyH P md (List.toArray (o0 :: o1 :: o2 :: o3 :: o4 :: r)) Q S (fuel + 1) listed a w := wpAnyH_take (i := 4) rfl hs hf hr hQ hy hS h
theorem st4 {o0 o1 o2 o3 o4 : Oper} {r : List Oper} {fuel : Nat} {listed : Array Bool} {a : Act} {w : World} {rs : List Nat}
    (h : ∀ K' : Act → World → Prop, Shut (∀ a w, S w → (S w → wpAnyH P md (List.toArray (o0 :: o1 :: o2 :: o3 :: o4 :: r)) Q S fuel (listed.setIfInBounds 4 true) a w) → K' a w) → if Region.wanted o4 (yielded (List.toArray (o0 :: o1 :: o2 :: o3 :: o4 :: r)) a.tmps) = true then Oper.wp P o4 a w K' Q else K' (a.put o4.dst undef) w)
    (hs : AllReadyH P md (List.toArray (o0 :: o1 :: o2 :: o3 :: o4 :: r)) Q S fuel listed a w rs) : AllReadyH P md (List.toArray (o0 :: o1 :: o2 :: o3 :: o4 :: r)) Q S fuel listed a w (4 :: rs) := AllReadyH.cons (i := 4) rfl h hs
theorem tk5 {o0 o1 o2 o3 o4 o5 : Oper} {r : List Oper} {v : Value} {fuel : Nat} {listed : Array Bool} {a : Act} {w : World} (hs : Region.noSelect (List.toArray (o0 :: o1 :: o2 :: o3 :: o4 :: o5 :: r)) = true) (hf : Region.free md (List.toArray (o0 :: o1 :: o2 :: o3 :: o4 :: o5 :: r)) listed 5 = true)
    (hr : (Region.ready md (List.toArray (o0 :: o1 :: o2 :: o3 :: o4 :: o5 :: r)) listed).contains 5 = true) (hQ : ∀ c a w, Q (.panic c) (a.put o5.dst v) w → Q (.panic c) a w) (hy : YieldsIf P (List.toArray (o0 :: o1 :: o2 :: o3 :: o4 :: o5 :: r)) S o5 v a) (hS : S w)
    (h : wpAnyH P md (List.toArray (o0 :: o1 :: o2 :: o3 :: o4 :: o5 :: r)) Q S fuel (listed.setIfInBounds 5 true) (a.put o5.dst v) w) : wpAnyH P md (List.toArray (o0 :: o1 :: o2 :: o3 :: o4 :: o5 :: r)) Q S (fuel + 1) listed a w := wpAnyH_take (i := 5) rfl hs hf hr hQ hy hS h
theorem st5 {o0 o1 o2 o3 o4 o5 : Oper} {r : List Oper} {fuel : Nat} {listed : Array Bool} {a : Act} {w : World} {rs : List Nat}
    (h : ∀ K' : Act → World → Prop, Shut (∀ a w, S w → (S w → wpAnyH P md (List.toArray (o0 :: o1 :: o2 :: o3 :: o4 :: o5 :: r)) Q S fuel (listed.setIfInBounds 5 true) a w) → K' a w) → if Region.wanted o5 (yielded (List.toArray (o0 :: o1 :: o2 :: o3 :: o4 :: o5 :: r)) a.tmps) = true then Oper.wp P o5 a w K' Q else K' (a.put o5.dst undef) w)
    (hs : AllReadyH P md (List.toArray (o0 :: o1 :: o2 :: o3 :: o4 :: o5 :: r)) Q S fuel listed a w rs) : AllReadyH P md (List.toArray (o0 :: o1 :: o2 :: o3 :: o4 :: o5 :: r)) Q S fuel listed a w (5 :: rs) := AllReadyH.cons (i := 5) rfl h hs
theorem tk6 {o0 o1 o2 o3 o4 o5 o6 : Oper} {r : List Oper} {v : Value} {fuel : Nat} {listed : Array Bool} {a : Act} {w : World} (hs : Region.noSelect (List.toArray (o0 :: o1 :: o2 :: o3 :: o4 :: o5 :: o6 :: r)) = true) (hf : Region.free md (List.toArray (o0 :: o1 :: o2 :: o3 :: o4 :: o5 :: o6 :: r)) listed 6 = true)
    (hr : (Region.ready md (List.toArray (o0 :: o1 :: o2 :: o3 :: o4 :: o5 :: o6 :: r)) listed).contains 6 = true) (hQ : ∀ c a w, Q (.panic c) (a.put o6.dst v) w → Q (.panic c) a w) (hy : YieldsIf P (List.toArray (o0 :: o1 :: o2 :: o3 :: o4 :: o5 :: o6 :: r)) S o6 v a) (hS : S w)
    (h : wpAnyH P md (List.toArray (o0 :: o1 :: o2 :: o3 :: o4 :: o5 :: o6 :: r)) Q S fuel (listed.setIfInBounds 6 true) (a.put o6.dst v) w) : wpAnyH P md (List.toArray (o0 :: o1 :: o2 :: o3 :: o4 :: o5 :: o6 :: r)) Q S (fuel + 1) listed a w := wpAnyH_take (i := 6) rfl hs hf hr hQ hy hS h
theorem st6 {o0 o1 o2 o3 o4 o5 o6 : Oper} {r : List Oper} {fuel : Nat} {listed : Array Bool} {a : Act} {w : World} {rs : List Nat}
    (h : ∀ K' : Act → World → Prop, Shut (∀ a w, S w → (S w → wpAnyH P md (List.toArray (o0 :: o1 :: o2 :: o3 :: o4 :: o5 :: o6 :: r)) Q S fuel (listed.setIfInBounds 6 true) a w) → K' a w) → if Region.wanted o6 (yielded (List.toArray (o0 :: o1 :: o2 :: o3 :: o4 :: o5 :: o6 :: r)) a.tmps) = true then Oper.wp P o6 a w K' Q else K' (a.put o6.dst undef) w)
    (hs : AllReadyH P md (List.toArray (o0 :: o1 :: o2 :: o3 :: o4 :: o5 :: o6 :: r)) Q S fuel listed a w rs) : AllReadyH P md (List.toArray (o0 :: o1 :: o2 :: o3 :: o4 :: o5 :: o6 :: r)) Q S fuel listed a w (6 :: rs) := AllReadyH.cons (i := 6) rfl h hs
theorem tk7 {o0 o1 o2 o3 o4 o5 o6 o7 : Oper} {r : List Oper} {v : Value} {fuel : Nat} {listed : Array Bool} {a : Act} {w : World} (hs : Region.noSelect (List.toArray (o0 :: o1 :: o2 :: o3 :: o4 :: o5 :: o6 :: o7 :: r)) = true) (hf : Region.free md (List.toArray (o0 :: o1 :: o2 :: o3 :: o4 :: o5 :: o6 :: o7 :: r)) listed 7 = true)
    (hr : (Region.ready md (List.toArray (o0 :: o1 :: o2 :: o3 :: o4 :: o5 :: o6 :: o7 :: r)) listed).contains 7 = true) (hQ : ∀ c a w, Q (.panic c) (a.put o7.dst v) w → Q (.panic c) a w) (hy : YieldsIf P (List.toArray (o0 :: o1 :: o2 :: o3 :: o4 :: o5 :: o6 :: o7 :: r)) S o7 v a) (hS : S w)
    (h : wpAnyH P md (List.toArray (o0 :: o1 :: o2 :: o3 :: o4 :: o5 :: o6 :: o7 :: r)) Q S fuel (listed.setIfInBounds 7 true) (a.put o7.dst v) w) : wpAnyH P md (List.toArray (o0 :: o1 :: o2 :: o3 :: o4 :: o5 :: o6 :: o7 :: r)) Q S (fuel + 1) listed a w := wpAnyH_take (i := 7) rfl hs hf hr hQ hy hS h
theorem st7 {o0 o1 o2 o3 o4 o5 o6 o7 : Oper} {r : List Oper} {fuel : Nat} {listed : Array Bool} {a : Act} {w : World} {rs : List Nat}
    (h : ∀ K' : Act → World → Prop, Shut (∀ a w, S w → (S w → wpAnyH P md (List.toArray (o0 :: o1 :: o2 :: o3 :: o4 :: o5 :: o6 :: o7 :: r)) Q S fuel (listed.setIfInBounds 7 true) a w) → K' a w) → if Region.wanted o7 (yielded (List.toArray (o0 :: o1 :: o2 :: o3 :: o4 :: o5 :: o6 :: o7 :: r)) a.tmps) = true then Oper.wp P o7 a w K' Q else K' (a.put o7.dst undef) w)
    (hs : AllReadyH P md (List.toArray (o0 :: o1 :: o2 :: o3 :: o4 :: o5 :: o6 :: o7 :: r)) Q S fuel listed a w rs) : AllReadyH P md (List.toArray (o0 :: o1 :: o2 :: o3 :: o4 :: o5 :: o6 :: o7 :: r)) Q S fuel listed a w (7 :: rs) := AllReadyH.cons (i := 7) rfl h hs
theorem tk8 {o0 o1 o2 o3 o4 o5 o6 o7 o8 : Oper} {r : List Oper} {v : Value} {fuel : Nat} {listed : Array Bool} {a : Act} {w : World} (hs : Region.noSelect (List.toArray (o0 :: o1 :: o2 :: o3 :: o4 :: o5 :: o6 :: o7 :: o8 :: r)) = true) (hf : Region.free md (List.toArray (o0 :: o1 :: o2 :: o3 :: o4 :: o5 :: o6 :: o7 :: o8 :: r)) listed 8 = true)
    (hr : (Region.ready md (List.toArray (o0 :: o1 :: o2 :: o3 :: o4 :: o5 :: o6 :: o7 :: o8 :: r)) listed).contains 8 = true) (hQ : ∀ c a w, Q (.panic c) (a.put o8.dst v) w → Q (.panic c) a w) (hy : YieldsIf P (List.toArray (o0 :: o1 :: o2 :: o3 :: o4 :: o5 :: o6 :: o7 :: o8 :: r)) S o8 v a) (hS : S w)
    (h : wpAnyH P md (List.toArray (o0 :: o1 :: o2 :: o3 :: o4 :: o5 :: o6 :: o7 :: o8 :: r)) Q S fuel (listed.setIfInBounds 8 true) (a.put o8.dst v) w) : wpAnyH P md (List.toArray (o0 :: o1 :: o2 :: o3 :: o4 :: o5 :: o6 :: o7 :: o8 :: r)) Q S (fuel + 1) listed a w := wpAnyH_take (i := 8) rfl hs hf hr hQ hy hS h
theorem st8 {o0 o1 o2 o3 o4 o5 o6 o7 o8 : Oper} {r : List Oper} {fuel : Nat} {listed : Array Bool} {a : Act} {w : World} {rs : List Nat}
    (h : ∀ K' : Act → World → Prop, Shut (∀ a w, S w → (S w → wpAnyH P md (List.toArray (o0 :: o1 :: o2 :: o3 :: o4 :: o5 :: o6 :: o7 :: o8 :: r)) Q S fuel (listed.setIfInBounds 8 true) a w) → K' a w) → if Region.wanted o8 (yielded (List.toArray (o0 :: o1 :: o2 :: o3 :: o4 :: o5 :: o6 :: o7 :: o8 :: r)) a.tmps) = true then Oper.wp P o8 a w K' Q else K' (a.put o8.dst undef) w)
    (hs : AllReadyH P md (List.toArray (o0 :: o1 :: o2 :: o3 :: o4 :: o5 :: o6 :: o7 :: o8 :: r)) Q S fuel listed a w rs) : AllReadyH P md (List.toArray (o0 :: o1 :: o2 :: o3 :: o4 :: o5 :: o6 :: o7 :: o8 :: r)) Q S fuel listed a w (8 :: rs) := AllReadyH.cons (i := 8) rfl h hs
theorem tk9 {o0 o1 o2 o3 o4 o5 o6 o7 o8 o9 : Oper} {r : List Oper} {v : Value} {fuel : Nat} {listed : Array Bool} {a : Act} {w : World} (hs : Region.noSelect (List.toArray (o0 :: o1 :: o2 :: o3 :: o4 :: o5 :: o6 :: o7 :: o8 :: o9 :: r)) = true) (hf : Region.free md (List.toArray (o0 :: o1 :: o2 :: o3 :: o4 :: o5 :: o6 :: o7 :: o8 :: o9 :: r)) listed 9 = true)
    (hr : (Region.ready md (List.toArray (o0 :: o1 :: o2 :: o3 :: o4 :: o5 :: o6 :: o7 :: o8 :: o9 :: r)) listed).contains 9 = true) (hQ : ∀ c a w, Q (.panic c) (a.put o9.dst v) w → Q (.panic c) a w) (hy : YieldsIf P (List.toArray (o0 :: o1 :: o2 :: o3 :: o4 :: o5 :: o6 :: o7 :: o8 :: o9 :: r)) S o9 v a) (hS : S w)
    (h : wpAnyH P md (List.toArray (o0 :: o1 :: o2 :: o3 :: o4 :: o5 :: o6 :: o7 :: o8 :: o9 :: r)) Q S fuel (listed.setIfInBounds 9 true) (a.put o9.dst v) w) : wpAnyH P md (List.toArray (o0 :: o1 :: o2 :: o3 :: o4 :: o5 :: o6 :: o7 :: o8 :: o9 :: r)) Q S (fuel + 1) listed a w := wpAnyH_take (i := 9) rfl hs hf hr hQ hy hS h
theorem st9 {o0 o1 o2 o3 o4 o5 o6 o7 o8 o9 : Oper} {r : List Oper} {fuel : Nat} {listed : Array Bool} {a : Act} {w : World} {rs : List Nat}
    (h : ∀ K' : Act → World → Prop, Shut (∀ a w, S w → (S w → wpAnyH P md (List.toArray (o0 :: o1 :: o2 :: o3 :: o4 :: o5 :: o6 :: o7 :: o8 :: o9 :: r)) Q S fuel (listed.setIfInBounds 9 true) a w) → K' a w) → if Region.wanted o9 (yielded (List.toArray (o0 :: o1 :: o2 :: o3 :: o4 :: o5 :: o6 :: o7 :: o8 :: o9 :: r)) a.tmps) = true then Oper.wp P o9 a w K' Q else K' (a.put o9.dst undef) w)
    (hs : AllReadyH P md (List.toArray (o0 :: o1 :: o2 :: o3 :: o4 :: o5 :: o6 :: o7 :: o8 :: o9 :: r)) Q S fuel listed a w rs) : AllReadyH P md (List.toArray (o0 :: o1 :: o2 :: o3 :: o4 :: o5 :: o6 :: o7 :: o8 :: o9 :: r)) Q S fuel listed a w (9 :: rs) := AllReadyH.cons (i := 9) rfl h hs
theorem tk10 {o0 o1 o2 o3 o4 o5 o6 o7 o8 o9 o10 : Oper} {r : List Oper} {v : Value} {fuel : Nat} {listed : Array Bool} {a : Act} {w : World} (hs : Region.noSelect (List.toArray (o0 :: o1 :: o2 :: o3 :: o4 :: o5 :: o6 :: o7 :: o8 :: o9 :: o10 :: r)) = true) (hf : Region.free md (List.toArray (o0 :: o1 :: o2 :: o3 :: o4 :: o5 :: o6 :: o7 :: o8 :: o9 :: o10 :: r)) listed 10 = true)
    (hr : (Region.ready md (List.toArray (o0 :: o1 :: o2 :: o3 :: o4 :: o5 :: o6 :: o7 :: o8 :: o9 :: o10 :: r)) listed).contains 10 = true) (hQ : ∀ c a w, Q (.panic c) (a.put o10.dst v) w → Q (.panic c) a w) (hy : YieldsIf P (List.toArray (o0 :: o1 :: o2 :: o3 :: o4 :: o5 :: o6 :: o7 :: o8 :: o9 :: o10 :: r)) S o10 v a) (hS : S w)
    (h : wpAnyH P md (List.toArray (o0 :: o1 :: o2 :: o3 :: o4 :: o5 :: o6 :: o7 :: o8 :: o9 :: o10 :: r)) Q S fuel (listed.setIfInBounds 10 true) (a.put o10.dst v) w) : wpAnyH P md (List.toArray (o0 :: o1 :: o2 :: o3 :: o4 :: o5 :: o6 :: o7 :: o8 :: o9 :: o10 :: r)) Q S (fuel + 1) listed a w := wpAnyH_take (i := 10) rfl hs hf hr hQ hy hS h
theorem st10 {o0 o1 o2 o3 o4 o5 o6 o7 o8 o9 o10 : Oper} {r : List Oper} {fuel : Nat} {listed : Array Bool} {a : Act} {w : World} {rs : List Nat}
    (h : ∀ K' : Act → World → Prop, Shut (∀ a w, S w → (S w → wpAnyH P md (List.toArray (o0 :: o1 :: o2 :: o3 :: o4 :: o5 :: o6 :: o7 :: o8 :: o9 :: o10 :: r)) Q S fuel (listed.setIfInBounds 10 true) a w) → K' a w) → if Region.wanted o10 (yielded (List.toArray (o0 :: o1 :: o2 :: o3 :: o4 :: o5 :: o6 :: o7 :: o8 :: o9 :: o10 :: r)) a.tmps) = true then Oper.wp P o10 a w K' Q else K' (a.put o10.dst undef) w)
    (hs : AllReadyH P md (List.toArray (o0 :: o1 :: o2 :: o3 :: o4 :: o5 :: o6 :: o7 :: o8 :: o9 :: o10 :: r)) Q S fuel listed a w rs) : AllReadyH P md (List.toArray (o0 :: o1 :: o2 :: o3 :: o4 :: o5 :: o6 :: o7 :: o8 :: o9 :: o10 :: r)) Q S fuel listed a w (10 :: rs) := AllReadyH.cons (i := 10) rfl h hs
theorem tk11 {o0 o1 o2 o3 o4 o5 o6 o7 o8 o9 o10 o11 : Oper} {r : List Oper} {v : Value} {fuel : Nat} {listed : Array Bool} {a : Act} {w : World} (hs : Region.noSelect (List.toArray (o0 :: o1 :: o2 :: o3 :: o4 :: o5 :: o6 :: o7 :: o8 :: o9 :: o10 :: o11 :: r)) = true) (hf : Region.free md (List.toArray (o0 :: o1 :: o2 :: o3 :: o4 :: o5 :: o6 :: o7 :: o8 :: o9 :: o10 :: o11 :: r)) listed 11 = true)
    (hr : (Region.ready md (List.toArray (o0 :: o1 :: o2 :: o3 :: o4 :: o5 :: o6 :: o7 :: o8 :: o9 :: o10 :: o11 :: r)) listed).contains 11 = true) (hQ : ∀ c a w, Q (.panic c) (a.put o11.dst v) w → Q (.panic c) a w) (hy : YieldsIf P (List.toArray (o0 :: o1 :: o2 :: o3 :: o4 :: o5 :: o6 :: o7 :: o8 :: o9 :: o10 :: o11 :: r)) S o11 v a) (hS : S w)
    (h : wpAnyH P md (List.toArray (o0 :: o1 :: o2 :: o3 :: o4 :: o5 :: o6 :: o7 :: o8 :: o9 :: o10 :: o11 :: r)) Q S fuel (listed.setIfInBounds 11 true) (a.put o11.dst v) w) : wpAnyH P md (List.toArray (o0 :: o1 :: o2 :: o3 :: o4 :: o5 :: o6 :: o7 :: o8 :: o9 :: o10 :: o11 :: r)) Q S (fuel + 1) listed a w := wpAnyH_take (i := 11) rfl hs hf hr hQ hy hS h
theorem st11 {o0 o1 o2 o3 o4 o5 o6 o7 o8 o9 o10 o11 : Oper} {r : List Oper} {fuel : Nat} {listed : Array Bool} {a : Act} {w : World} {rs : List Nat}
    (h : ∀ K' : Act → World → Prop, Shut (∀ a w, S w → (S w → wpAnyH P md (List.toArray (o0 :: o1 :: o2 :: o3 :: o4 :: o5 :: o6 :: o7 :: o8 :: o9 :: o10 :: o11 :: r)) Q S fuel (listed.setIfInBounds 11 true) a w) → K' a w) → if Region.wanted o11 (yielded (List.toArray (o0 :: o1 :: o2 :: o3 :: o4 :: o5 :: o6 :: o7 :: o8 :: o9 :: o10 :: o11 :: r)) a.tmps) = true then Oper.wp P o11 a w K' Q else K' (a.put o11.dst undef) w)
    (hs : AllReadyH P md (List.toArray (o0 :: o1 :: o2 :: o3 :: o4 :: o5 :: o6 :: o7 :: o8 :: o9 :: o10 :: o11 :: r)) Q S fuel listed a w rs) : AllReadyH P md (List.toArray (o0 :: o1 :: o2 :: o3 :: o4 :: o5 :: o6 :: o7 :: o8 :: o9 :: o10 :: o11 :: r)) Q S fuel listed a w (11 :: rs) := AllReadyH.cons (i := 11) rfl h hs
theorem tk12 {o0 o1 o2 o3 o4 o5 o6 o7 o8 o9 o10 o11 o12 : Oper} {r : List Oper} {v : Value} {fuel : Nat} {listed : Array Bool} {a : Act} {w : World} (hs : Region.noSelect (List.toArray (o0 :: o1 :: o2 :: o3 :: o4 :: o5 :: o6 :: o7 :: o8 :: o9 :: o10 :: o11 :: o12 :: r)) = true) (hf : Region.free md (List.toArray (o0 :: o1 :: o2 :: o3 :: o4 :: o5 :: o6 :: o7 :: o8 :: o9 :: o10 :: o11 :: o12 :: r)) listed 12 = true)
    (hr : (Region.ready md (List.toArray (o0 :: o1 :: o2 :: o3 :: o4 :: o5 :: o6 :: o7 :: o8 :: o9 :: o10 :: o11 :: o12 :: r)) listed).contains 12 = true) (hQ : ∀ c a w, Q (.panic c) (a.put o12.dst v) w → Q (.panic c) a w) (hy : YieldsIf P (List.toArray (o0 :: o1 :: o2 :: o3 :: o4 :: o5 :: o6 :: o7 :: o8 :: o9 :: o10 :: o11 :: o12 :: r)) S o12 v a) (hS : S w)
    (h : wpAnyH P md (List.toArray (o0 :: o1 :: o2 :: o3 :: o4 :: o5 :: o6 :: o7 :: o8 :: o9 :: o10 :: o11 :: o12 :: r)) Q S fuel (listed.setIfInBounds 12 true) (a.put o12.dst v) w) : wpAnyH P md (List.toArray (o0 :: o1 :: o2 :: o3 :: o4 :: o5 :: o6 :: o7 :: o8 :: o9 :: o10 :: o11 :: o12 :: r)) Q S (fuel + 1) listed a w := wpAnyH_take (i := 12) rfl hs hf hr hQ hy hS h
theorem st12 {o0 o1 o2 o3 o4 o5 o6 o7 o8 o9 o10 o11 o12 : Oper} {r : List Oper} {fuel : Nat} {listed : Array Bool} {a : Act} {w : World} {rs : List Nat}
    (h : ∀ K' : Act → World → Prop, Shut (∀ a w, S w → (S w → wpAnyH P md (List.toArray (o0 :: o1 :: o2 :: o3 :: o4 :: o5 :: o6 :: o7 :: o8 :: o9 :: o10 :: o11 :: o12 :: r)) Q S fuel (listed.setIfInBounds 12 true) a w) → K' a w) → if Region.wanted o12 (yielded (List.toArray (o0 :: o1 :: o2 :: o3 :: o4 :: o5 :: o6 :: o7 :: o8 :: o9 :: o10 :: o11 :: o12 :: r)) a.tmps) = true then Oper.wp P o12 a w K' Q else K' (a.put o12.dst undef) w)
    (hs : AllReadyH P md (List.toArray (o0 :: o1 :: o2 :: o3 :: o4 :: o5 :: o6 :: o7 :: o8 :: o9 :: o10 :: o11 :: o12 :: r)) Q S fuel listed a w rs) : AllReadyH P md (List.toArray (o0 :: o1 :: o2 :: o3 :: o4 :: o5 :: o6 :: o7 :: o8 :: o9 :: o10 :: o11 :: o12 :: r)) Q S fuel listed a w (12 :: rs) := AllReadyH.cons (i := 12) rfl h hs
theorem tk13 {o0 o1 o2 o3 o4 o5 o6 o7 o8 o9 o10 o11 o12 o13 : Oper} {r : List Oper} {v : Value} {fuel : Nat} {listed : Array Bool} {a : Act} {w : World} (hs : Region.noSelect (List.toArray (o0 :: o1 :: o2 :: o3 :: o4 :: o5 :: o6 :: o7 :: o8 :: o9 :: o10 :: o11 :: o12 :: o13 :: r)) = true) (hf : Region.free md (List.toArray (o0 :: o1 :: o2 :: o3 :: o4 :: o5 :: o6 :: o7 :: o8 :: o9 :: o10 :: o11 :: o12 :: o13 :: r)) listed 13 = true)
    (hr : (Region.ready md (List.toArray (o0 :: o1 :: o2 :: o3 :: o4 :: o5 :: o6 :: o7 :: o8 :: o9 :: o10 :: o11 :: o12 :: o13 :: r)) listed).contains 13 = true) (hQ : ∀ c a w, Q (.panic c) (a.put o13.dst v) w → Q (.panic c) a w) (hy : YieldsIf P (List.toArray (o0 :: o1 :: o2 :: o3 :: o4 :: o5 :: o6 :: o7 :: o8 :: o9 :: o10 :: o11 :: o12 :: o13 :: r)) S o13 v a) (hS : S w)
    (h : wpAnyH P md (List.toArray (o0 :: o1 :: o2 :: o3 :: o4 :: o5 :: o6 :: o7 :: o8 :: o9 :: o10 :: o11 :: o12 :: o13 :: r)) Q S fuel (listed.setIfInBounds 13 true) (a.put o13.dst v) w) : wpAnyH P md (List.toArray (o0 :: o1 :: o2 :: o3 :: o4 :: o5 :: o6 :: o7 :: o8 :: o9 :: o10 :: o11 :: o12 :: o13 :: r)) Q S (fuel + 1) listed a w := wpAnyH_take (i := 13) rfl hs hf hr hQ hy hS h
theorem st13 {o0 o1 o2 o3 o4 o5 o6 o7 o8 o9 o10 o11 o12 o13 : Oper} {r : List Oper} {fuel : Nat} {listed : Array Bool} {a : Act} {w : World} {rs : List Nat}
    (h : ∀ K' : Act → World → Prop, Shut (∀ a w, S w → (S w → wpAnyH P md (List.toArray (o0 :: o1 :: o2 :: o3 :: o4 :: o5 :: o6 :: o7 :: o8 :: o9 :: o10 :: o11 :: o12 :: o13 :: r)) Q S fuel (listed.setIfInBounds 13 true) a w) → K' a w) → if Region.wanted o13 (yielded (List.toArray (o0 :: o1 :: o2 :: o3 :: o4 :: o5 :: o6 :: o7 :: o8 :: o9 :: o10 :: o11 :: o12 :: o13 :: r)) a.tmps) = true then Oper.wp P o13 a w K' Q else K' (a.put o13.dst undef) w)
    (hs : AllReadyH P md (List.toArray (o0 :: o1 :: o2 :: o3 :: o4 :: o5 :: o6 :: o7 :: o8 :: o9 :: o10 :: o11 :: o12 :: o13 :: r)) Q S fuel listed a w rs) : AllReadyH P md (List.toArray (o0 :: o1 :: o2 :: o3 :: o4 :: o5 :: o6 :: o7 :: o8 :: o9 :: o10 :: o11 :: o12 :: o13 :: r)) Q S fuel listed a w (13 :: rs) := AllReadyH.cons (i := 13) rfl h hs
theorem tk14 {o0 o1 o2 o3 o4 o5 o6 o7 o8 o9 o10 o11 o12 o13 o14 : Oper} {r : List Oper} {v : Value} {fuel : Nat} {listed : Array Bool} {a : Act} {w : World} (hs : Region.noSelect (List.toArray (o0 :: o1 :: o2 :: o3 :: o4 :: o5 :: o6 :: o7 :: o8 :: o9 :: o10 :: o11 :: o12 :: o13 :: o14 :: r)) = true) (hf : Region.free md (List.toArray (o0 :: o1 :: o2 :: o3 :: o4 :: o5 :: o6 :: o7 :: o8 :: o9 :: o10 :: o11 :: o12 :: o13 :: o14 :: r)) listed 14 = true)
    (hr : (Region.ready md (List.toArray (o0 :: o1 :: o2 :: o3 :: o4 :: o5 :: o6 :: o7 :: o8 :: o9 :: o10 :: o11 :: o12 :: o13 :: o14 :: r)) listed).contains 14 = true) (hQ : ∀ c a w, Q (.panic c) (a.put o14.dst v) w → Q (.panic c) a w) (hy : YieldsIf P (List.toArray (o0 :: o1 :: o2 :: o3 :: o4 :: o5 :: o6 :: o7 :: o8 :: o9 :: o10 :: o11 :: o12 :: o13 :: o14 :: r)) S o14 v a) (hS : S w)
    (h : wpAnyH P md (List.toArray (o0 :: o1 :: o2 :: o3 :: o4 :: o5 :: o6 :: o7 :: o8 :: o9 :: o10 :: o11 :: o12 :: o13 :: o14 :: r)) Q S fuel (listed.setIfInBounds 14 true) (a.put o14.dst v) w) : wpAnyH P md (List.toArray (o0 :: o1 :: o2 :: o3 :: o4 :: o5 :: o6 :: o7 :: o8 :: o9 :: o10 :: o11 :: o12 :: o13 :: o14 :: r)) Q S (fuel + 1) listed a w := wpAnyH_take (i := 14) rfl hs hf hr hQ hy hS h
theorem st14 {o0 o1 o2 o3 o4 o5 o6 o7 o8 o9 o10 o11 o12 o13 o14 : Oper} {r : List Oper} {fuel : Nat} {listed : Array Bool} {a : Act} {w : World} {rs : List Nat}
    (h : ∀ K' : Act → World → Prop, Shut (∀ a w, S w → (S w → wpAnyH P md (List.toArray (o0 :: o1 :: o2 :: o3 :: o4 :: o5 :: o6 :: o7 :: o8 :: o9 :: o10 :: o11 :: o12 :: o13 :: o14 :: r)) Q S fuel (listed.setIfInBounds 14 true) a w) → K' a w) → if Region.wanted o14 (yielded (List.toArray (o0 :: o1 :: o2 :: o3 :: o4 :: o5 :: o6 :: o7 :: o8 :: o9 :: o10 :: o11 :: o12 :: o13 :: o14 :: r)) a.tmps) = true then Oper.wp P o14 a w K' Q else K' (a.put o14.dst undef) w)
    (hs : AllReadyH P md (List.toArray (o0 :: o1 :: o2 :: o3 :: o4 :: o5 :: o6 :: o7 :: o8 :: o9 :: o10 :: o11 :: o12 :: o13 :: o14 :: r)) Q S fuel listed a w rs) : AllReadyH P md (List.toArray (o0 :: o1 :: o2 :: o3 :: o4 :: o5 :: o6 :: o7 :: o8 :: o9 :: o10 :: o11 :: o12 :: o13 :: o14 :: r)) Q S fuel listed a w (14 :: rs) := AllReadyH.cons (i := 14) rfl h hs
theorem tk15 {o0 o1 o2 o3 o4 o5 o6 o7 o8 o9 o10 o11 o12 o13 o14 o15 : Oper} {r : List Oper} {v : Value} {fuel : Nat} {listed : Array Bool} {a : Act} {w : World} (hs : Region.noSelect (List.toArray (o0 :: o1 :: o2 :: o3 :: o4 :: o5 :: o6 :: o7 :: o8 :: o9 :: o10 :: o11 :: o12 :: o13 :: o14 :: o15 :: r)) = true) (hf : Region.free md (List.toArray (o0 :: o1 :: o2 :: o3 :: o4 :: o5 :: o6 :: o7 :: o8 :: o9 :: o10 :: o11 :: o12 :: o13 :: o14 :: o15 :: r)) listed 15 = true)
    (hr : (Region.ready md (List.toArray (o0 :: o1 :: o2 :: o3 :: o4 :: o5 :: o6 :: o7 :: o8 :: o9 :: o10 :: o11 :: o12 :: o13 :: o14 :: o15 :: r)) listed).contains 15 = true) (hQ : ∀ c a w, Q (.panic c) (a.put o15.dst v) w → Q (.panic c) a w) (hy : YieldsIf P (List.toArray (o0 :: o1 :: o2 :: o3 :: o4 :: o5 :: o6 :: o7 :: o8 :: o9 :: o10 :: o11 :: o12 :: o13 :: o14 :: o15 :: r)) S o15 v a) (hS : S w)
    (h : wpAnyH P md (List.toArray (o0 :: o1 :: o2 :: o3 :: o4 :: o5 :: o6 :: o7 :: o8 :: o9 :: o10 :: o11 :: o12 :: o13 :: o14 :: o15 :: r)) Q S fuel (listed.setIfInBounds 15 true) (a.put o15.dst v) w) : wpAnyH P md (List.toArray (o0 :: o1 :: o2 :: o3 :: o4 :: o5 :: o6 :: o7 :: o8 :: o9 :: o10 :: o11 :: o12 :: o13 :: o14 :: o15 :: r)) Q S (fuel + 1) listed a w := wpAnyH_take (i := 15) rfl hs hf hr hQ hy hS h
theorem st15 {o0 o1 o2 o3 o4 o5 o6 o7 o8 o9 o10 o11 o12 o13 o14 o15 : Oper} {r : List Oper} {fuel : Nat} {listed : Array Bool} {a : Act} {w : World} {rs : List Nat}
    (h : ∀ K' : Act → World → Prop, Shut (∀ a w, S w → (S w → wpAnyH P md (List.toArray (o0 :: o1 :: o2 :: o3 :: o4 :: o5 :: o6 :: o7 :: o8 :: o9 :: o10 :: o11 :: o12 :: o13 :: o14 :: o15 :: r)) Q S fuel (listed.setIfInBounds 15 true) a w) → K' a w) → if Region.wanted o15 (yielded (List.toArray (o0 :: o1 :: o2 :: o3 :: o4 :: o5 :: o6 :: o7 :: o8 :: o9 :: o10 :: o11 :: o12 :: o13 :: o14 :: o15 :: r)) a.tmps) = true then Oper.wp P o15 a w K' Q else K' (a.put o15.dst undef) w)
    (hs : AllReadyH P md (List.toArray (o0 :: o1 :: o2 :: o3 :: o4 :: o5 :: o6 :: o7 :: o8 :: o9 :: o10 :: o11 :: o12 :: o13 :: o14 :: o15 :: r)) Q S fuel listed a w rs) : AllReadyH P md (List.toArray (o0 :: o1 :: o2 :: o3 :: o4 :: o5 :: o6 :: o7 :: o8 :: o9 :: o10 :: o11 :: o12 :: o13 :: o14 :: o15 :: r)) Q S fuel listed a w (15 :: rs) := AllReadyH.cons (i := 15) rfl h hs
theorem tk16 {o0 o1 o2 o3 o4 o5 o6 o7 o8 o9 o10 o11 o12 o13 o14 o15 o16 : Oper} {r : List Oper} {v : Value} {fuel : Nat} {listed : Array Bool} {a : Act} {w : World} (hs : Region.noSelect (List.toArray (o0 :: o1 :: o2 :: o3 :: o4 :: o5 :: o6 :: o7 :: o8 :: o9 :: o10 :: o11 :: o12 :: o13 :: o14 :: o15 :: o16 :: r)) = true) (hf : Region.free md (List.toArray (o0 :: o1 :: o2 :: o3 :: o4 :: o5 :: o6 :: o7 :: o8 :: o9 :: o10 :: o11 :: o12 :: o13 :: o14 :: o15 :: o16 :: r)) listed 16 = true)
    (hr : (Region.ready md (List.toArray (o0 :: o1 :: o2 :: o3 :: o4 :: o5 :: o6 :: o7 :: o8 :: o9 :: o10 :: o11 :: o12 :: o13 :: o14 :: o15 :: o16 :: r)) listed).contains 16 = true) (hQ : ∀ c a w, Q (.panic c) (a.put o16.dst v) w → Q (.panic c) a w) (hy : YieldsIf P (List.toArray (o0 :: o1 :: o2 :: o3 :: o4 :: o5 :: o6 :: o7 :: o8 :: o9 :: o10 :: o11 :: o12 :: o13 :: o14 :: o15 :: o16 :: r)) S o16 v a) (hS : S w)
    (h : wpAnyH P md (List.toArray (o0 :: o1 :: o2 :: o3 :: o4 :: o5 :: o6 :: o7 :: o8 :: o9 :: o10 :: o11 :: o12 :: o13 :: o14 :: o15 :: o16 :: r)) Q S fuel (listed.setIfInBounds 16 true) (a.put o16.dst v) w) : wpAnyH P md (List.toArray (o0 :: o1 :: o2 :: o3 :: o4 :: o5 :: o6 :: o7 :: o8 :: o9 :: o10 :: o11 :: o12 :: o13 :: o14 :: o15 :: o16 :: r)) Q S (fuel + 1) listed a w := wpAnyH_take (i := 16) rfl hs hf hr hQ hy hS h
theorem st16 {o0 o1 o2 o3 o4 o5 o6 o7 o8 o9 o10 o11 o12 o13 o14 o15 o16 : Oper} {r : List Oper} {fuel : Nat} {listed : Array Bool} {a : Act} {w : World} {rs : List Nat}
    (h : ∀ K' : Act → World → Prop, Shut (∀ a w, S w → (S w → wpAnyH P md (List.toArray (o0 :: o1 :: o2 :: o3 :: o4 :: o5 :: o6 :: o7 :: o8 :: o9 :: o10 :: o11 :: o12 :: o13 :: o14 :: o15 :: o16 :: r)) Q S fuel (listed.setIfInBounds 16 true) a w) → K' a w) → if Region.wanted o16 (yielded (List.toArray (o0 :: o1 :: o2 :: o3 :: o4 :: o5 :: o6 :: o7 :: o8 :: o9 :: o10 :: o11 :: o12 :: o13 :: o14 :: o15 :: o16 :: r)) a.tmps) = true then Oper.wp P o16 a w K' Q else K' (a.put o16.dst undef) w)
    (hs : AllReadyH P md (List.toArray (o0 :: o1 :: o2 :: o3 :: o4 :: o5 :: o6 :: o7 :: o8 :: o9 :: o10 :: o11 :: o12 :: o13 :: o14 :: o15 :: o16 :: r)) Q S fuel listed a w rs) : AllReadyH P md (List.toArray (o0 :: o1 :: o2 :: o3 :: o4 :: o5 :: o6 :: o7 :: o8 :: o9 :: o10 :: o11 :: o12 :: o13 :: o14 :: o15 :: o16 :: r)) Q S fuel listed a w (16 :: rs) := AllReadyH.cons (i := 16) rfl h hs
theorem tk17 {o0 o1 o2 o3 o4 o5 o6 o7 o8 o9 o10 o11 o12 o13 o14 o15 o16 o17 : Oper} {r : List Oper} {v : Value} {fuel : Nat} {listed : Array Bool} {a : Act} {w : World} (hs : Region.noSelect (List.toArray (o0 :: o1 :: o2 :: o3 :: o4 :: o5 :: o6 :: o7 :: o8 :: o9 :: o10 :: o11 :: o12 :: o13 :: o14 :: o15 :: o16 :: o17 :: r)) = true) (hf : Region.free md (List.toArray (o0 :: o1 :: o2 :: o3 :: o4 :: o5 :: o6 :: o7 :: o8 :: o9 :: o10 :: o11 :: o12 :: o13 :: o14 :: o15 :: o16 :: o17 :: r)) listed 17 = true)
    (hr : (Region.ready md (List.toArray (o0 :: o1 :: o2 :: o3 :: o4 :: o5 :: o6 :: o7 :: o8 :: o9 :: o10 :: o11 :: o12 :: o13 :: o14 :: o15 :: o16 :: o17 :: r)) listed).contains 17 = true) (hQ : ∀ c a w, Q (.panic c) (a.put o17.dst v) w → Q (.panic c) a w) (hy : YieldsIf P (List.toArray (o0 :: o1 :: o2 :: o3 :: o4 :: o5 :: o6 :: o7 :: o8 :: o9 :: o10 :: o11 :: o12 :: o13 :: o14 :: o15 :: o16 :: o17 :: r)) S o17 v a) (hS : S w)
    (h : wpAnyH P md (List.toArray (o0 :: o1 :: o2 :: o3 :: o4 :: o5 :: o6 :: o7 :: o8 :: o9 :: o10 :: o11 :: o12 :: o13 :: o14 :: o15 :: o16 :: o17 :: r)) Q S fuel (listed.setIfInBounds 17 true) (a.put o17.dst v) w) : wpAnyH P md (List.toArray (o0 :: o1 :: o2 :: o3 :: o4 :: o5 :: o6 :: o7 :: o8 :: o9 :: o10 :: o11 :: o12 :: o13 :: o14 :: o15 :: o16 :: o17 :: r)) Q S (fuel + 1) listed a w := wpAnyH_take (i := 17) rfl hs hf hr hQ hy hS h
theorem st17 {o0 o1 o2 o3 o4 o5 o6 o7 o8 o9 o10 o11 o12 o13 o14 o15 o16 o17 : Oper} {r : List Oper} {fuel : Nat} {listed : Array Bool} {a : Act} {w : World} {rs : List Nat}
    (h : ∀ K' : Act → World → Prop, Shut (∀ a w, S w → (S w → wpAnyH P md (List.toArray (o0 :: o1 :: o2 :: o3 :: o4 :: o5 :: o6 :: o7 :: o8 :: o9 :: o10 :: o11 :: o12 :: o13 :: o14 :: o15 :: o16 :: o17 :: r)) Q S fuel (listed.setIfInBounds 17 true) a w) → K' a w) → if Region.wanted o17 (yielded (List.toArray (o0 :: o1 :: o2 :: o3 :: o4 :: o5 :: o6 :: o7 :: o8 :: o9 :: o10 :: o11 :: o12 :: o13 :: o14 :: o15 :: o16 :: o17 :: r)) a.tmps) = true then Oper.wp P o17 a w K' Q else K' (a.put o17.dst undef) w)
    (hs : AllReadyH P md (List.toArray (o0 :: o1 :: o2 :: o3 :: o4 :: o5 :: o6 :: o7 :: o8 :: o9 :: o10 :: o11 :: o12 :: o13 :: o14 :: o15 :: o16 :: o17 :: r)) Q S fuel listed a w rs) : AllReadyH P md (List.toArray (o0 :: o1 :: o2 :: o3 :: o4 :: o5 :: o6 :: o7 :: o8 :: o9 :: o10 :: o11 :: o12 :: o13 :: o14 :: o15 :: o16 :: o17 :: r)) Q S fuel listed a w (17 :: rs) := AllReadyH.cons (i := 17) rfl h hs
theorem tk18 {o0 o1 o2 o3 o4 o5 o6 o7 o8 o9 o10 o11 o12 o13 o14 o15 o16 o17 o18 : Oper} {r : List Oper} {v : Value} {fuel : Nat} {listed : Array Bool} {a : Act} {w : World} (hs : Region.noSelect (List.toArray (o0 :: o1 :: o2 :: o3 :: o4 :: o5 :: o6 :: o7 :: o8 :: o9 :: o10 :: o11 :: o12 :: o13 :: o14 :: o15 :: o16 :: o17 :: o18 :: r)) = true) (hf : Region.free md (List.toArray (o0 :: o1 :: o2 :: o3 :: o4 :: o5 :: o6 :: o7 :: o8 :: o9 :: o10 :: o11 :: o12 :: o13 :: o14 :: o15 :: o16 :: o17 :: o18 :: r)) listed 18 = true)
    (hr : (Region.ready md (List.toArray (o0 :: o1 :: o2 :: o3 :: o4 :: o5 :: o6 :: o7 :: o8 :: o9 :: o10 :: o11 :: o12 :: o13 :: o14 :: o15 :: o16 :: o17 :: o18 :: r)) listed).contains 18 = true) (hQ : ∀ c a w, Q (.panic c) (a.put o18.dst v) w → Q (.panic c) a w) (hy : YieldsIf P (List.toArray (o0 :: o1 :: o2 :: o3 :: o4 :: o5 :: o6 :: o7 :: o8 :: o9 :: o10 :: o11 :: o12 :: o13 :: o14 :: o15 :: o16 :: o17 :: o18 :: r)) S o18 v a) (hS : S w)
    (h : wpAnyH P md (List.toArray (o0 :: o1 :: o2 :: o3 :: o4 :: o5 :: o6 :: o7 :: o8 :: o9 :: o10 :: o11 :: o12 :: o13 :: o14 :: o15 :: o16 :: o17 :: o18 :: r)) Q S fuel (listed.setIfInBounds 18 true) (a.put o18.dst v) w) : wpAnyH P md (List.toArray (o0 :: o1 :: o2 :: o3 :: o4 :: o5 :: o6 :: o7 :: o8 :: o9 :: o10 :: o11 :: o12 :: o13 :: o14 :: o15 :: o16 :: o17 :: o18 :: r)) Q S (fuel + 1) listed a w := wpAnyH_take (i := 18) rfl hs hf hr hQ hy hS h
theorem st18 {o0 o1 o2 o3 o4 o5 o6 o7 o8 o9 o10 o11 o12 o13 o14 o15 o16 o17 o18 : Oper} {r : List Oper} {fuel : Nat} {listed : Array Bool} {a : Act} {w : World} {rs : List Nat}
    (h : ∀ K' : Act → World → Prop, Shut (∀ a w, S w → (S w → wpAnyH P md (List.toArray (o0 :: o1 :: o2 :: o3 :: o4 :: o5 :: o6 :: o7 :: o8 :: o9 :: o10 :: o11 :: o12 :: o13 :: o14 :: o15 :: o16 :: o17 :: o18 :: r)) Q S fuel (listed.setIfInBounds 18 true) a w) → K' a w) → if Region.wanted o18 (yielded (List.toArray (o0 :: o1 :: o2 :: o3 :: o4 :: o5 :: o6 :: o7 :: o8 :: o9 :: o10 :: o11 :: o12 :: o13 :: o14 :: o15 :: o16 :: o17 :: o18 :: r)) a.tmps) = true then Oper.wp P o18 a w K' Q else K' (a.put o18.dst undef) w)
    (hs : AllReadyH P md (List.toArray (o0 :: o1 :: o2 :: o3 :: o4 :: o5 :: o6 :: o7 :: o8 :: o9 :: o10 :: o11 :: o12 :: o13 :: o14 :: o15 :: o16 :: o17 :: o18 :: r)) Q S fuel listed a w rs) : AllReadyH P md (List.toArray (o0 :: o1 :: o2 :: o3 :: o4 :: o5 :: o6 :: o7 :: o8 :: o9 :: o10 :: o11 :: o12 :: o13 :: o14 :: o15 :: o16 :: o17 :: o18 :: r)) Q S fuel listed a w (18 :: rs) := AllReadyH.cons (i := 18) rfl h hs
theorem tk19 {o0 o1 o2 o3 o4 o5 o6 o7 o8 o9 o10 o11 o12 o13 o14 o15 o16 o17 o18 o19 : Oper} {r : List Oper} {v : Value} {fuel : Nat} {listed : Array Bool} {a : Act} {w : World} (hs : Region.noSelect (List.toArray (o0 :: o1 :: o2 :: o3 :: o4 :: o5 :: o6 :: o7 :: o8 :: o9 :: o10 :: o11 :: o12 :: o13 :: o14 :: o15 :: o16 :: o17 :: o18 :: o19 :: r)) = true) (hf : Region.free md (List.toArray (o0 :: o1 :: o2 :: o3 :: o4 :: o5 :: o6 :: o7 :: o8 :: o9 :: o10 :: o11 :: o12 :: o13 :: o14 :: o15 :: o16 :: o17 :: o18 :: o19 :: r)) listed 19 = true)
    (hr : (Region.ready md (List.toArray (o0 :: o1 :: o2 :: o3 :: o4 :: o5 :: o6 :: o7 :: o8 :: o9 :: o10 :: o11 :: o12 :: o13 :: o14 :: o15 :: o16 :: o17 :: o18 :: o19 :: r)) listed).contains 19 = true) (hQ : ∀ c a w, Q (.panic c) (a.put o19.dst v) w → Q (.panic c) a w) (hy : YieldsIf P (List.toArray (o0 :: o1 :: o2 :: o3 :: o4 :: o5 :: o6 :: o7 :: o8 :: o9 :: o10 :: o11 :: o12 :: o13 :: o14 :: o15 :: o16 :: o17 :: o18 :: o19 :: r)) S o19 v a) (hS : S w)
    (h : wpAnyH P md (List.toArray (o0 :: o1 :: o2 :: o3 :: o4 :: o5 :: o6 :: o7 :: o8 :: o9 :: o10 :: o11 :: o12 :: o13 :: o14 :: o15 :: o16 :: o17 :: o18 :: o19 :: r)) Q S fuel (listed.setIfInBounds 19 true) (a.put o19.dst v) w) : wpAnyH P md (List.toArray (o0 :: o1 :: o2 :: o3 :: o4 :: o5 :: o6 :: o7 :: o8 :: o9 :: o10 :: o11 :: o12 :: o13 :: o14 :: o15 :: o16 :: o17 :: o18 :: o19 :: r)) Q S (fuel + 1) listed a w := wpAnyH_take (i := 19) rfl hs hf hr hQ hy hS h
theorem st19 {o0 o1 o2 o3 o4 o5 o6 o7 o8 o9 o10 o11 o12 o13 o14 o15 o16 o17 o18 o19 : Oper} {r : List Oper} {fuel : Nat} {listed : Array Bool} {a : Act} {w : World} {rs : List Nat}
    (h : ∀ K' : Act → World → Prop, Shut (∀ a w, S w → (S w → wpAnyH P md (List.toArray (o0 :: o1 :: o2 :: o3 :: o4 :: o5 :: o6 :: o7 :: o8 :: o9 :: o10 :: o11 :: o12 :: o13 :: o14 :: o15 :: o16 :: o17 :: o18 :: o19 :: r)) Q S fuel (listed.setIfInBounds 19 true) a w) → K' a w) → if Region.wanted o19 (yielded (List.toArray (o0 :: o1 :: o2 :: o3 :: o4 :: o5 :: o6 :: o7 :: o8 :: o9 :: o10 :: o11 :: o12 :: o13 :: o14 :: o15 :: o16 :: o17 :: o18 :: o19 :: r)) a.tmps) = true then Oper.wp P o19 a w K' Q else K' (a.put o19.dst undef) w)
    (hs : AllReadyH P md (List.toArray (o0 :: o1 :: o2 :: o3 :: o4 :: o5 :: o6 :: o7 :: o8 :: o9 :: o10 :: o11 :: o12 :: o13 :: o14 :: o15 :: o16 :: o17 :: o18 :: o19 :: r)) Q S fuel listed a w rs) : AllReadyH P md (List.toArray (o0 :: o1 :: o2 :: o3 :: o4 :: o5 :: o6 :: o7 :: o8 :: o9 :: o10 :: o11 :: o12 :: o13 :: o14 :: o15 :: o16 :: o17 :: o18 :: o19 :: r)) Q S fuel listed a w (19 :: rs) := AllReadyH.cons (i := 19) rfl h hs
theorem tk20 {o0 o1 o2 o3 o4 o5 o6 o7 o8 o9 o10 o11 o12 o13 o14 o15 o16 o17 o18 o19 o20 : Oper} {r : List Oper} {v : Value} {fuel : Nat} {listed : Array Bool} {a : Act} {w : World} (hs : Region.noSelect (List.toArray (o0 :: o1 :: o2 :: o3 :: o4 :: o5 :: o6 :: o7 :: o8 :: o9 :: o10 :: o11 :: o12 :: o13 :: o14 :: o15 :: o16 :: o17 :: o18 :: o19 :: o20 :: r)) = true) (hf : Region.free md (List.toArray (o0 :: o1 :: o2 :: o3 :: o4 :: o5 :: o6 :: o7 :: o8 :: o9 :: o10 :: o11 :: o12 :: o13 :: o14 :: o15 :: o16 :: o17 :: o18 :: o19 :: o20 :: r)) listed 20 = true)
    (hr : (Region.ready md (List.toArray (o0 :: o1 :: o2 :: o3 :: o4 :: o5 :: o6 :: o7 :: o8 :: o9 :: o10 :: o11 :: o12 :: o13 :: o14 :: o15 :: o16 :: o17 :: o18 :: o19 :: o20 :: r)) listed).contains 20 = true) (hQ : ∀ c a w, Q (.panic c) (a.put o20.dst v) w → Q (.panic c) a w) (hy : YieldsIf P (List.toArray (o0 :: o1 :: o2 :: o3 :: o4 :: o5 :: o6 :: o7 :: o8 :: o9 :: o10 :: o11 :: o12 :: o13 :: o14 :: o15 :: o16 :: o17 :: o18 :: o19 :: o20 :: r)) S o20 v a) (hS : S w)
    (h : wpAnyH P md (List.toArray (o0 :: o1 :: o2 :: o3 :: o4 :: o5 :: o6 :: o7 :: o8 :: o9 :: o10 :: o11 :: o12 :: o13 :: o14 :: o15 :: o16 :: o17 :: o18 :: o19 :: o20 :: r)) Q S fuel (listed.setIfInBounds 20 true) (a.put o20.dst v) w) : wpAnyH P md (List.toArray (o0 :: o1 :: o2 :: o3 :: o4 :: o5 :: o6 :: o7 :: o8 :: o9 :: o10 :: o11 :: o12 :: o13 :: o14 :: o15 :: o16 :: o17 :: o18 :: o19 :: o20 :: r)) Q S (fuel + 1) listed a w := wpAnyH_take (i := 20) rfl hs hf hr hQ hy hS h
theorem st20 {o0 o1 o2 o3 o4 o5 o6 o7 o8 o9 o10 o11 o12 o13 o14 o15 o16 o17 o18 o19 o20 : Oper} {r : List Oper} {fuel : Nat} {listed : Array Bool} {a : Act} {w : World} {rs : List Nat}
    (h : ∀ K' : Act → World → Prop, Shut (∀ a w, S w → (S w → wpAnyH P md (List.toArray (o0 :: o1 :: o2 :: o3 :: o4 :: o5 :: o6 :: o7 :: o8 :: o9 :: o10 :: o11 :: o12 :: o13 :: o14 :: o15 :: o16 :: o17 :: o18 :: o19 :: o20 :: r)) Q S fuel (listed.setIfInBounds 20 true) a w) → K' a w) → if Region.wanted o20 (yielded (List.toArray (o0 :: o1 :: o2 :: o3 :: o4 :: o5 :: o6 :: o7 :: o8 :: o9 :: o10 :: o11 :: o12 :: o13 :: o14 :: o15 :: o16 :: o17 :: o18 :: o19 :: o20 :: r)) a.tmps) = true then Oper.wp P o20 a w K' Q else K' (a.put o20.dst undef) w)
    (hs : AllReadyH P md (List.toArray (o0 :: o1 :: o2 :: o3 :: o4 :: o5 :: o6 :: o7 :: o8 :: o9 :: o10 :: o11 :: o12 :: o13 :: o14 :: o15 :: o16 :: o17 :: o18 :: o19 :: o20 :: r)) Q S fuel listed a w rs) : AllReadyH P md (List.toArray (o0 :: o1 :: o2 :: o3 :: o4 :: o5 :: o6 :: o7 :: o8 :: o9 :: o10 :: o11 :: o12 :: o13 :: o14 :: o15 :: o16 :: o17 :: o18 :: o19 :: o20 :: r)) Q S fuel listed a w (20 :: rs) := AllReadyH.cons (i := 20) rfl h hs
theorem tk21 {o0 o1 o2 o3 o4 o5 o6 o7 o8 o9 o10 o11 o12 o13 o14 o15 o16 o17 o18 o19 o20 o21 : Oper} {r : List Oper} {v : Value} {fuel : Nat} {listed : Array Bool} {a : Act} {w : World} (hs : Region.noSelect (List.toArray (o0 :: o1 :: o2 :: o3 :: o4 :: o5 :: o6 :: o7 :: o8 :: o9 :: o10 :: o11 :: o12 :: o13 :: o14 :: o15 :: o16 :: o17 :: o18 :: o19 :: o20 :: o21 :: r)) = true) (hf : Region.free md (List.toArray (o0 :: o1 :: o2 :: o3 :: o4 :: o5 :: o6 :: o7 :: o8 :: o9 :: o10 :: o11 :: o12 :: o13 :: o14 :: o15 :: o16 :: o17 :: o18 :: o19 :: o20 :: o21 :: r)) listed 21 = true)
    (hr : (Region.ready md (List.toArray (o0 :: o1 :: o2 :: o3 :: o4 :: o5 :: o6 :: o7 :: o8 :: o9 :: o10 :: o11 :: o12 :: o13 :: o14 :: o15 :: o16 :: o17 :: o18 :: o19 :: o20 :: o21 :: r)) listed).contains 21 = true) (hQ : ∀ c a w, Q (.panic c) (a.put o21.dst v) w → Q (.panic c) a w) (hy : YieldsIf P (List.toArray (o0 :: o1 :: o2 :: o3 :: o4 :: o5 :: o6 :: o7 :: o8 :: o9 :: o10 :: o11 :: o12 :: o13 :: o14 :: o15 :: o16 :: o17 :: o18 :: o19 :: o20 :: o21 :: r)) S o21 v a) (hS : S w)
    (h : wpAnyH P md (List.toArray (o0 :: o1 :: o2 :: o3 :: o4 :: o5 :: o6 :: o7 :: o8 :: o9 :: o10 :: o11 :: o12 :: o13 :: o14 :: o15 :: o16 :: o17 :: o18 :: o19 :: o20 :: o21 :: r)) Q S fuel (listed.setIfInBounds 21 true) (a.put o21.dst v) w) : wpAnyH P md (List.toArray (o0 :: o1 :: o2 :: o3 :: o4 :: o5 :: o6 :: o7 :: o8 :: o9 :: o10 :: o11 :: o12 :: o13 :: o14 :: o15 :: o16 :: o17 :: o18 :: o19 :: o20 :: o21 :: r)) Q S (fuel + 1) listed a w := wpAnyH_take (i := 21) rfl hs hf hr hQ hy hS h
theorem st21 {o0 o1 o2 o3 o4 o5 o6 o7 o8 o9 o10 o11 o12 o13 o14 o15 o16 o17 o18 o19 o20 o21 : Oper} {r : List Oper} {fuel : Nat} {listed : Array Bool} {a : Act} {w : World} {rs : List Nat}
    (h : ∀ K' : Act → World → Prop, Shut (∀ a w, S w → (S w → wpAnyH P md (List.toArray (o0 :: o1 :: o2 :: o3 :: o4 :: o5 :: o6 :: o7 :: o8 :: o9 :: o10 :: o11 :: o12 :: o13 :: o14 :: o15 :: o16 :: o17 :: o18 :: o19 :: o20 :: o21 :: r)) Q S fuel (listed.setIfInBounds 21 true) a w) → K' a w) → if Region.wanted o21 (yielded (List.toArray (o0 :: o1 :: o2 :: o3 :: o4 :: o5 :: o6 :: o7 :: o8 :: o9 :: o10 :: o11 :: o12 :: o13 :: o14 :: o15 :: o16 :: o17 :: o18 :: o19 :: o20 :: o21 :: r)) a.tmps) = true then Oper.wp P o21 a w K' Q else K' (a.put o21.dst undef) w)
    (hs : AllReadyH P md (List.toArray (o0 :: o1 :: o2 :: o3 :: o4 :: o5 :: o6 :: o7 :: o8 :: o9 :: o10 :: o11 :: o12 :: o13 :: o14 :: o15 :: o16 :: o17 :: o18 :: o19 :: o20 :: o21 :: r)) Q S fuel listed a w rs) : AllReadyH P md (List.toArray (o0 :: o1 :: o2 :: o3 :: o4 :: o5 :: o6 :: o7 :: o8 :: o9 :: o10 :: o11 :: o12 :: o13 :: o14 :: o15 :: o16 :: o17 :: o18 :: o19 :: o20 :: o21 :: r)) Q S fuel listed a w (21 :: rs) := AllReadyH.cons (i := 21) rfl h hs
theorem tk22 {o0 o1 o2 o3 o4 o5 o6 o7 o8 o9 o10 o11 o12 o13 o14 o15 o16 o17 o18 o19 o20 o21 o22 : Oper} {r : List Oper} {v : Value} {fuel : Nat} {listed : Array Bool} {a : Act} {w : World} (hs : Region.noSelect (List.toArray (o0 :: o1 :: o2 :: o3 :: o4 :: o5 :: o6 :: o7 :: o8 :: o9 :: o10 :: o11 :: o12 :: o13 :: o14 :: o15 :: o16 :: o17 :: o18 :: o19 :: o20 :: o21 :: o22 :: r)) = true) (hf : Region.free md (List.toArray (o0 :: o1 :: o2 :: o3 :: o4 :: o5 :: o6 :: o7 :: o8 :: o9 :: o10 :: o11 :: o12 :: o13 :: o14 :: o15 :: o16 :: o17 :: o18 :: o19 :: o20 :: o21 :: o22 :: r)) listed 22 = true)
    (hr : (Region.ready md (List.toArray (o0 :: o1 :: o2 :: o3 :: o4 :: o5 :: o6 :: o7 :: o8 :: o9 :: o10 :: o11 :: o12 :: o13 :: o14 :: o15 :: o16 :: o17 :: o18 :: o19 :: o20 :: o21 :: o22 :: r)) listed).contains 22 = true) (hQ : ∀ c a w, Q (.panic c) (a.put o22.dst v) w → Q (.panic c) a w) (hy : YieldsIf P (List.toArray (o0 :: o1 :: o2 :: o3 :: o4 :: o5 :: o6 :: o7 :: o8 :: o9 :: o10 :: o11 :: o12 :: o13 :: o14 :: o15 :: o16 :: o17 :: o18 :: o19 :: o20 :: o21 :: o22 :: r)) S o22 v a) (hS : S w)
    (h : wpAnyH P md (List.toArray (o0 :: o1 :: o2 :: o3 :: o4 :: o5 :: o6 :: o7 :: o8 :: o9 :: o10 :: o11 :: o12 :: o13 :: o14 :: o15 :: o16 :: o17 :: o18 :: o19 :: o20 :: o21 :: o22 :: r)) Q S fuel (listed.setIfInBounds 22 true) (a.put o22.dst v) w) : wpAnyH P md (List.toArray (o0 :: o1 :: o2 :: o3 :: o4 :: o5 :: o6 :: o7 :: o8 :: o9 :: o10 :: o11 :: o12 :: o13 :: o14 :: o15 :: o16 :: o17 :: o18 :: o19 :: o20 :: o21 :: o22 :: r)) Q S (fuel + 1) listed a w := wpAnyH_take (i := 22) rfl hs hf hr hQ hy hS h
theorem st22 {o0 o1 o2 o3 o4 o5 o6 o7 o8 o9 o10 o11 o12 o13 o14 o15 o16 o17 o18 o19 o20 o21 o22 : Oper} {r : List Oper} {fuel : Nat} {listed : Array Bool} {a : Act} {w : World} {rs : List Nat}
    (h : ∀ K' : Act → World → Prop, Shut (∀ a w, S w → (S w → wpAnyH P md (List.toArray (o0 :: o1 :: o2 :: o3 :: o4 :: o5 :: o6 :: o7 :: o8 :: o9 :: o10 :: o11 :: o12 :: o13 :: o14 :: o15 :: o16 :: o17 :: o18 :: o19 :: o20 :: o21 :: o22 :: r)) Q S fuel (listed.setIfInBounds 22 true) a w) → K' a w) → if Region.wanted o22 (yielded (List.toArray (o0 :: o1 :: o2 :: o3 :: o4 :: o5 :: o6 :: o7 :: o8 :: o9 :: o10 :: o11 :: o12 :: o13 :: o14 :: o15 :: o16 :: o17 :: o18 :: o19 :: o20 :: o21 :: o22 :: r)) a.tmps) = true then Oper.wp P o22 a w K' Q else K' (a.put o22.dst undef) w)
    (hs : AllReadyH P md (List.toArray (o0 :: o1 :: o2 :: o3 :: o4 :: o5 :: o6 :: o7 :: o8 :: o9 :: o10 :: o11 :: o12 :: o13 :: o14 :: o15 :: o16 :: o17 :: o18 :: o19 :: o20 :: o21 :: o22 :: r)) Q S fuel listed a w rs) : AllReadyH P md (List.toArray (o0 :: o1 :: o2 :: o3 :: o4 :: o5 :: o6 :: o7 :: o8 :: o9 :: o10 :: o11 :: o12 :: o13 :: o14 :: o15 :: o16 :: o17 :: o18 :: o19 :: o20 :: o21 :: o22 :: r)) Q S fuel listed a w (22 :: rs) := AllReadyH.cons (i := 22) rfl h hs
theorem tk23 {o0 o1 o2 o3 o4 o5 o6 o7 o8 o9 o10 o11 o12 o13 o14 o15 o16 o17 o18 o19 o20 o21 o22 o23 : Oper} {r : List Oper} {v : Value} {fuel : Nat} {listed : Array Bool} {a : Act} {w : World} (hs : Region.noSelect (List.toArray (o0 :: o1 :: o2 :: o3 :: o4 :: o5 :: o6 :: o7 :: o8 :: o9 :: o10 :: o11 :: o12 :: o13 :: o14 :: o15 :: o16 :: o17 :: o18 :: o19 :: o20 :: o21 :: o22 :: o23 :: r)) = true) (hf : Region.free md (List.toArray (o0 :: o1 :: o2 :: o3 :: o4 :: o5 :: o6 :: o7 :: o8 :: o9 :: o10 :: o11 :: o12 :: o13 :: o14 :: o15 :: o16 :: o17 :: o18 :: o19 :: o20 :: o21 :: o22 :: o23 :: r)) listed 23 = true)
    (hr : (Region.ready md (List.toArray (o0 :: o1 :: o2 :: o3 :: o4 :: o5 :: o6 :: o7 :: o8 :: o9 :: o10 :: o11 :: o12 :: o13 :: o14 :: o15 :: o16 :: o17 :: o18 :: o19 :: o20 :: o21 :: o22 :: o23 :: r)) listed).contains 23 = true) (hQ : ∀ c a w, Q (.panic c) (a.put o23.dst v) w → Q (.panic c) a w) (hy : YieldsIf P (List.toArray (o0 :: o1 :: o2 :: o3 :: o4 :: o5 :: o6 :: o7 :: o8 :: o9 :: o10 :: o11 :: o12 :: o13 :: o14 :: o15 :: o16 :: o17 :: o18 :: o19 :: o20 :: o21 :: o22 :: o23 :: r)) S o23 v a) (hS : S w)
    (h : wpAnyH P md (List.toArray (o0 :: o1 :: o2 :: o3 :: o4 :: o5 :: o6 :: o7 :: o8 :: o9 :: o10 :: o11 :: o12 :: o13 :: o14 :: o15 :: o16 :: o17 :: o18 :: o19 :: o20 :: o21 :: o22 :: o23 :: r)) Q S fuel (listed.setIfInBounds 23 true) (a.put o23.dst v) w) : wpAnyH P md (List.toArray (o0 :: o1 :: o2 :: o3 :: o4 :: o5 :: o6 :: o7 :: o8 :: o9 :: o10 :: o11 :: o12 :: o13 :: o14 :: o15 :: o16 :: o17 :: o18 :: o19 :: o20 :: o21 :: o22 :: o23 :: r)) Q S (fuel + 1) listed a w := wpAnyH_take (i := 23) rfl hs hf hr hQ hy hS h
theorem st23 {o0 o1 o2 o3 o4 o5 o6 o7 o8 o9 o10 o11 o12 o13 o14 o15 o16 o17 o18 o19 o20 o21 o22 o23 : Oper} {r : List Oper} {fuel : Nat} {listed : Array Bool} {a : Act} {w : World} {rs : List Nat}
    (h : ∀ K' : Act → World → Prop, Shut (∀ a w, S w → (S w → wpAnyH P md (List.toArray (o0 :: o1 :: o2 :: o3 :: o4 :: o5 :: o6 :: o7 :: o8 :: o9 :: o10 :: o11 :: o12 :: o13 :: o14 :: o15 :: o16 :: o17 :: o18 :: o19 :: o20 :: o21 :: o22 :: o23 :: r)) Q S fuel (listed.setIfInBounds 23 true) a w) → K' a w) → if Region.wanted o23 (yielded (List.toArray (o0 :: o1 :: o2 :: o3 :: o4 :: o5 :: o6 :: o7 :: o8 :: o9 :: o10 :: o11 :: o12 :: o13 :: o14 :: o15 :: o16 :: o17 :: o18 :: o19 :: o20 :: o21 :: o22 :: o23 :: r)) a.tmps) = true then Oper.wp P o23 a w K' Q else K' (a.put o23.dst undef) w)
    (hs : AllReadyH P md (List.toArray (o0 :: o1 :: o2 :: o3 :: o4 :: o5 :: o6 :: o7 :: o8 :: o9 :: o10 :: o11 :: o12 :: o13 :: o14 :: o15 :: o16 :: o17 :: o18 :: o19 :: o20 :: o21 :: o22 :: o23 :: r)) Q S fuel listed a w rs) : AllReadyH P md (List.toArray (o0 :: o1 :: o2 :: o3 :: o4 :: o5 :: o6 :: o7 :: o8 :: o9 :: o10 :: o11 :: o12 :: o13 :: o14 :: o15 :: o16 :: o17 :: o18 :: o19 :: o20 :: o21 :: o22 :: o23 :: r)) Q S fuel listed a w (23 :: rs) := AllReadyH.cons (i := 23) rfl h hs
end
end Go.Proofs.Ytjifiijgghpniaa
