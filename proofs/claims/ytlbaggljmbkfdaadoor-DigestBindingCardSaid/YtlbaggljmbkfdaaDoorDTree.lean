/-
  Trees: contracts of Root, Path, Check.
-/
import Derived.Test.YtlbaggljmbkfdaaDoorDOwn
namespace Go.Proofs.YtlbaggljmbkfdaaDoor
open Go.RowKit Dg

theorem ret2_u64 {a b : Int} {e : Int} (h : a = b) : Ending.returned (.tuple #[.int .u64 a, .int .i64 e]) = .returned (.tuple #[.int .u64 b, .int .i64 e]) := by rw [h]
theorem cE_pos {n : Int} (h : cE n = 0) : 1 ≤ n ∧ n ≤ 1024 := by
  unfold cE at h
  split at h
  · omega
  · split at h
    · omega
    · omega
theorem cE_zero {n : Int} (h1 : 1 ≤ n) (h2 : n ≤ 1024) : cE n = 0 := by unfold cE; rw [if_neg (by omega), if_neg (by omega)]
/-- What Root gives. -/
noncomputable def rtR (l : List Nat) : Nat := if cE l.length = 0 then rt l else 0

set_option maxRecDepth 100000 in
set_option maxHeartbeats 1000000 in
theorem root_any (l : List Nat) (p : Option Addr) (b off cap len : Nat) (w : World) (hS : SlF u64v w p b off len l) :
    Calls Tryd.prog 15 #[.slice p len cap] w fun e w' => e = .returned (.tuple #[.int .u64 (rtR l : Nat), .int .i64 (cE len)]) ∧ RowKit.Below w.heap.size w w' := by
  have HS := Lib.hid hS
  have HL := Lib.hid hS.ln
  have KC := Lib.hid (fun w => count_any (len : Int) w)
  obtain ⟨ce, hce⟩ : ∃ ce, ce = cE (len : Int) := ⟨_, rfl⟩
  rw [← hce] at KC ⊢
  have hln := hS.ln
  clear hS
  by_cases h : ce = 0
  · have h1 := cE_pos (n := len) (by rw [← hce]; exact h)
    have E : rtR l = rt l := by unfold rtR; rw [hln, ← hce, if_pos h]
    rw [E, h]
    rw [h] at KC
    have hl1 : 1 ≤ len := by omega
    have hl2 : len ≤ 1024 := by omega
    have KF := Lib.hid (fun w hS => first_any l p b off cap len w hS (by omega))
    clear h1 E h hce hln
    go_enter Tryd.func15, Tryd.ntmps15
    go_wp2_with fail
    refine (KC.out _).mono ?_
    rintro _ w1 ⟨rfl, rfl⟩
    go_wp2_with fail
    refine (KF.out _ HS.out).mono ?_
    rintro _ w2 ⟨rfl, hs2, hb2⟩
    have HS2 := Lib.hid hs2
    have HB2 := Lib.hid hb2
    clear hs2 hb2 KC KF
    go_wp2_with fail
    go_loopg [5] len (fun gg s5 wr => ∃ (g n : Nat) (L : List Nat), s5 = .slice (some ⟨g, 0, none⟩) n n ∧ 1 ≤ n ∧ n ≤ len ∧ n ≤ gg ∧ Hid (SlF u64v wr (some ⟨g, 0, none⟩) g 0 n L) ∧ Hid (rtV L = rt l) ∧ Hid (RowKit.Below w1.heap.size w1 wr))
    case atStart => exact ⟨w1.heap.size, len, lv l, rfl, hl1, Nat.le_refl _, Nat.le_refl _, HS2.out, rfl, HB2.out⟩
    case round =>
      obtain ⟨g, n, L, rfl, hn1, hnl, hng, HSL, HR, HB⟩ := hrel
      clear HS2 HB2
      by_cases hlt : 1 < n
      · have hltz : (1 : Int) < (n : Int) := by omega
        have KN := Lib.hid (fun w hS => next_any L (some ⟨g, 0, none⟩) g 0 n n w hS (by omega))
        obtain ⟨N, hN⟩ : ∃ N, N = (n + 1) / 2 := ⟨_, rfl⟩
        rw [← hN] at KN
        have hN1 : 1 ≤ N := by omega
        have hN2 : N < n := by omega
        clear hN
        go_wp2_with fail
        refine (KN.out _ HSL.out).mono ?_
        rintro _ w3 ⟨rfl, hs3, hb3⟩
        have HS3 := Lib.hid hs3
        have HB3 := Lib.hid (HB.out.trans (hb3.mono HB.out.size))
        clear hs3 hb3 KN
        go_wp2
        go_roundg N
        case measure => omega
        case rel => exact ⟨wr.heap.size, N, upL L, rfl, hN1, by omega, Nat.le_refl _, HS3.out, by show _ = _; rw [rtV_up]; exact HR.out, HB3.out⟩
      · obtain rfl : n = 1 := by omega
        have hL1 : L.length = 1 := HSL.out.ln
        have c0 := HSL.out.cells 0 (by omega)
        have HE : Hid (L[0] = rt l) := by
          have := HR.out
          rw [rtV_short (by omega), List.getElem?_eq_getElem (by omega)] at this
          exact this
        generalize L[0] = x at *
        unfold u64v at c0
        go_wp2
        go_ret2
        exact ⟨ret2_u64 (by rw [HE.out]), HB.out⟩
  · have E : rtR l = 0 := by unfold rtR; rw [hln, ← hce, if_neg h]
    rw [E]
    clear hce hln E
    go_enter Tryd.func15, Tryd.ntmps15
    go_wp2_with fail
    refine (KC.out _).mono ?_
    rintro _ w1 ⟨rfl, rfl⟩
    go_wp2
    go_ret2
    exact ⟨rfl, Below.refl _ _⟩

/-- The error of an index. -/
def peE (i n : Int) : Int := if cE n = 0 then (if isI i n = true then 0 else 1) else cE n
/-- What Path gives. -/
noncomputable def ptR (l : List Nat) (i : Int) : List Nat := if peE i l.length = 0 then pt l i.toNat else []
theorem peE_pos {i n : Int} (h : peE i n = 0) : 1 ≤ n ∧ n ≤ 1024 ∧ 0 ≤ i ∧ i < n := by
  unfold peE at h
  split at h
  · rename_i h1
    have := cE_pos h1
    split at h
    · rename_i h2
      unfold isI at h2
      simp only [Bool.and_eq_true, decide_eq_true_eq] at h2
      omega
    · omega
  · rename_i h1; exact absurd h h1
theorem isI_true {i n : Int} (h1 : 0 ≤ i) (h2 : i < n) : isI i n = true := by unfold isI; rw [decide_eq_true h1, decide_eq_true h2]; rfl
theorem isI_false {i n : Int} (h : n ≤ i) : isI i n = false := by unfold isI; rw [decide_eq_false (show ¬ i < n by omega), Bool.and_false]
theorem peE_zero {i n : Int} (h1 : 1 ≤ n) (h2 : n ≤ 1024) (h3 : 0 ≤ i) (h4 : i < n) : peE i n = 0 := by unfold peE; rw [cE_zero h1 h2, if_pos rfl, isI_true h3 h4, if_pos rfl]
theorem bes_in {L : List Nat} {j : Nat} (h : bsI j < L.length) : bes L j = [L[bsI j]] := by
  unfold bes bsI at *
  by_cases h1 : j % 2 = 0
  · simp only [h1, if_true] at h ⊢
    rw [if_neg (by omega), if_pos h, List.getElem?_eq_getElem h]; rfl
  · simp only [h1, if_false] at h ⊢
    rw [if_pos (by omega), List.getElem?_eq_getElem (by omega)]; rfl
theorem bes_out {L : List Nat} {j : Nat} (hj : j < L.length) (h : ¬ bsI j < L.length) : bes L j = [] := by
  unfold bes bsI at *
  by_cases h1 : j % 2 = 0
  · simp only [h1, if_true] at h
    rw [if_neg (by omega), if_neg h]
  · simp only [h1, if_false] at h
    omega
/-- A path that came out. -/
def OutP (l : List Nat) (i : Int) (w : World) (e : Ending) (w' : World) : Prop := ∃ v, e = .returned (.tuple #[v, .int .i64 (peE i l.length)]) ∧ OutS u64v w' v (ptR l i) ∧ RowKit.Below w.heap.size w w'

set_option maxRecDepth 100000 in
set_option maxHeartbeats 2000000 in
theorem path_any (l : List Nat) (p : Option Addr) (b off cap len : Nat) (i : Int) (w : World) (hS : SlF u64v w p b off len l) :
    Calls Tryd.prog 17 #[.slice p len cap, .int .i64 i] w fun e w' => OutP l i w e w' := by
  have HS := Lib.hid hS
  have HL := Lib.hid hS.ln
  have KC := Lib.hid (fun w => count_any (len : Int) w)
  have KI := Lib.hid (fun w => index_any i (len : Int) w)
  have hln := hS.ln
  clear hS
  by_cases h : cE (len : Int) = 0
  · have h1 := cE_pos h
    have hl1 : 1 ≤ len := by omega
    have hl2 : len ≤ 1024 := by omega
    rw [h] at KC
    cases hI : isI i (len : Int) with
    | false =>
      have R : Hid (∀ W, RowKit.Below w.heap.size w W → OutP l i w (.returned (.tuple #[.slice none 0 0, .int .i64 1])) W) := fun W hW => by
        have e : peE i l.length = 1 := by unfold peE; rw [hln, h, if_pos rfl, hI]; rfl
        refine ⟨_, by rw [e], ?_, hW⟩
        have e2 : ptR l i = [] := by unfold ptR; rw [e, if_neg (by decide)]
        rw [e2]
        exact ⟨none, 0, 0, rfl, SlF.nil _ _, Nat.le_refl _⟩
      rw [hI] at KI
      clear hI h h1 hln
      go_enter Tryd.func17, Tryd.ntmps17
      go_wp2_with fail
      refine (KC.out _).mono ?_
      rintro _ w1 ⟨rfl, rfl⟩
      go_wp2_with fail
      refine (KI.out _).mono ?_
      rintro _ w2 ⟨rfl, rfl⟩
      go_wp2
      go_ret2
      exact R.out _ (Below.refl _ _)
    | true =>
      obtain ⟨j0, rfl⟩ : ∃ j0 : Nat, i = (j0 : Int) := ⟨i.toNat, by
        unfold isI at hI
        simp only [Bool.and_eq_true, decide_eq_true_eq] at hI
        omega⟩
      have hj0 : j0 < len := by
        unfold isI at hI
        simp only [Bool.and_eq_true, decide_eq_true_eq] at hI
        omega
      have R : Hid (∀ v W, RowKit.Below w.heap.size w W → OutS u64v W v (pt l j0) → OutP l j0 w (.returned (.tuple #[v, .int .i64 0])) W) := fun v W hW hv => by
        have e : peE (j0 : Int) l.length = 0 := by unfold peE; rw [hln, h, if_pos rfl, hI]; rfl
        refine ⟨v, by rw [e], ?_, hW⟩
        have e2 : ptR l j0 = pt l j0 := by unfold ptR; rw [e, if_pos rfl, Int.toNat_natCast]
        rw [e2]
        exact hv
      have HPL : Hid ((pt l j0).length ≤ 10) := pt_le l j0 (by omega)
      rw [hI] at KI
      have KF := Lib.hid (fun w hS => first_any l p b off cap len w hS (by omega))
      clear hI h h1 hln
      go_enter Tryd.func17, Tryd.ntmps17
      go_wp2_with fail
      refine (KC.out _).mono ?_
      rintro _ w1 ⟨rfl, rfl⟩
      go_wp2_with fail
      refine (KI.out _).mono ?_
      rintro _ w1 ⟨rfl, rfl⟩
      go_wp2_with fail
      refine (KF.out _ HS.out).mono ?_
      rintro _ w2 ⟨rfl, hs2, hb2⟩
      have HS2 := Lib.hid hs2
      have HB2 := Lib.hid hb2
      clear hs2 hb2 KC KF KI
      go_wp2_with fail
      go_loopg [1, 7, 8] len (fun gg s1 s7 s8 wr => ∃ (j g n : Nat) (L P : List Nat), s1 = .int .i64 j ∧ s8 = .slice (some ⟨g, 0, none⟩) n n ∧ 1 ≤ n ∧ n ≤ len ∧ n ≤ gg ∧ j < n ∧ Hid (SlF u64v wr (some ⟨g, 0, none⟩) g 0 n L) ∧ Hid (Own 25 u64v wr w1.heap.size s7 P) ∧ Hid (P ++ ptV L j = pt l j0) ∧ Hid (∀ k, s7.ownBlock = some k → k ≠ g) ∧ Hid (RowKit.Below w1.heap.size w1 wr))
      case atStart => exact ⟨j0, w1.heap.size, len, lv l, [], rfl, rfl, hl1, Nat.le_refl _, Nat.le_refl _, hj0, HS2.out, Own.empty, rfl, (fun k hk => by cases hk), HB2.out⟩
      case round =>
        obtain ⟨j, g, n, L, P, rfl, rfl, hn1, hnl, hng, hjn, HSL, HO, HR, HNE, HB⟩ := hrel
        clear HS2 HB2
        by_cases hlt : 1 < n
        · have hltz : (1 : Int) < (n : Int) := by omega
          have KN := Lib.hid (fun w hS => next_any L (some ⟨g, 0, none⟩) g 0 n n w hS (by omega))
          have KB := Lib.hid (fun w => beside_any j w (by omega))
          have KA := Lib.hid (fun w => above_any j w (by omega))
          have KI2 := Lib.hid (fun w => index_any ((bsI j : Nat) : Int) (n : Int) w)
          have hL : L.length = n := HSL.out.ln
          have HPT : Hid (ptV L j = bes L j ++ ptV (upL L) (j / 2)) := ptV_long (by omega)
          obtain ⟨N, hN⟩ : ∃ N, N = (n + 1) / 2 := ⟨_, rfl⟩
          rw [← hN] at KN
          have hN1 : 1 ≤ N := by omega
          have hN2 : N < n := by omega
          obtain ⟨j2, hj2⟩ : ∃ N, N = j / 2 := ⟨_, rfl⟩
          rw [← hj2] at KA HPT
          have hj2N : j2 < N := by omega
          clear hN hj2
          by_cases hbs : bsI j < n
          · have HB1 := bes_in (L := L) (j := j) (by omega)
            have hbs1 : bsI j < L.length := by omega
            rw [isI_true (by omega) (by omega)] at KI2
            have c1 := HSL.out.cells (bsI j) hbs1
            obtain ⟨x, hx⟩ : ∃ x, x = L[bsI j] := ⟨_, rfl⟩
            rw [← hx] at HB1 c1
            rw [HB1] at HPT
            clear hx HB1 hbs1
            generalize bsI j = m at *
            have hmz : (m : Int) < (n : Int) := by omega
            unfold u64v at c1
            rw [Nat.zero_add] at c1
            have hPl : P.length ≤ 10 := by
              have := congrArg List.length HR.out
              rw [List.length_append] at this
              have h2 := HPL.out
              omega
            go_wp2_with fail
            refine (KB.out _).mono ?_
            rintro _ w3 ⟨rfl, rfl⟩
            go_wp2_with fail
            refine (KI2.out _).mono ?_
            rintro _ w3 ⟨rfl, rfl⟩
            go_wp2_with fail
            refine (KB.out _).mono ?_
            rintro _ w3 ⟨rfl, rfl⟩
            go_wp2_with (first | (at_builtin; refine list_app (f := u64v) el64 u64_one rfl _ _ rfl w1.heap.size u7 P rfl (HO.out.alloc _) ⟨_, 0, none⟩ 1 1 [x] rfl rfl (news1 (f := u64v) w3 x _) (by omega) (by have := HB.out.size; rw [World.size_alloc]; omega) ?_; intro v5 W5 own5 grow5 _) | fail)
            have HB5 := Lib.hid ((HB.out.alloc HB.out.size (.cells #[.int .u64 x] 25)).grown grow5 (by have := HB.out.size; simp; omega) HO.out.block)
            have HSL5 := Lib.hid ((HSL.out.alloc (.cells #[.int .u64 x] 25)).grown grow5 HNE.out)
            have HO5 := Lib.hid own5
            clear own5 grow5
            go_wp2_with fail
            refine (KA.out _).mono ?_
            rintro _ w4 ⟨rfl, rfl⟩
            go_wp2_with fail
            refine (KN.out _ HSL5.out).mono ?_
            rintro _ w5 ⟨rfl, hs5, hb5⟩
            have HS5 := Lib.hid hs5
            have HB6 := Lib.hid (HB5.out.trans (hb5.mono HB5.out.size))
            have HO6 := Lib.hid (HO5.out.below hb5)
            have HNE6 := Lib.hid HO5.out.blt
            clear hs5 hb5
            go_wp2
            go_roundg N
            case measure => omega
            case rel => exact ⟨j2, _, N, upL L, _, rfl, rfl, hN1, by omega, Nat.le_refl _, hj2N, HS5.out, HO6.out, by show _ = _; rw [List.append_assoc, ← HPT.out]; exact HR.out, (fun k hk => Nat.ne_of_lt (HNE6.out k hk)), HB6.out⟩
          · have HB1 := bes_out (L := L) (j := j) (by omega) (by omega)
            rw [isI_false (by omega)] at KI2
            rw [HB1, List.nil_append] at HPT
            clear HB1
            generalize bsI j = m at *
            go_wp2_with fail
            refine (KB.out _).mono ?_
            rintro _ w3 ⟨rfl, rfl⟩
            go_wp2_with fail
            refine (KI2.out _).mono ?_
            rintro _ w3 ⟨rfl, rfl⟩
            go_wp2_with fail
            refine (KA.out _).mono ?_
            rintro _ w4 ⟨rfl, rfl⟩
            go_wp2_with fail
            refine (KN.out _ HSL.out).mono ?_
            rintro _ w5 ⟨rfl, hs5, hb5⟩
            have HS5 := Lib.hid hs5
            have HB6 := Lib.hid (HB.out.trans (hb5.mono HB.out.size))
            have HO6 := Lib.hid (HO.out.below hb5)
            have HNE6 := Lib.hid HO.out.blt
            clear hs5 hb5
            go_wp2
            go_roundg N
            case measure => omega
            case rel => exact ⟨j2, _, N, upL L, _, rfl, rfl, hN1, by omega, Nat.le_refl _, hj2N, HS5.out, HO6.out, by show _ = _; rw [← HPT.out]; exact HR.out, (fun k hk => Nat.ne_of_lt (HNE6.out k hk)), HB6.out⟩
        · obtain rfl : n = 1 := by omega
          have hL1 : L.length = 1 := HSL.out.ln
          have HE : P = pt l j0 := by
            have := HR.out
            rw [ptV_short (by omega), List.append_nil] at this
            exact this
          subst HE
          have HF := Lib.hid (R.out u7 wr HB.out (HO.out.reads (by have := HPL.out; omega)))
          go_wp2
          go_ret2
          exact HF.out
  · have R : Hid (∀ W, RowKit.Below w.heap.size w W → OutP l i w (.returned (.tuple #[.slice none 0 0, .int .i64 (cE len)])) W) := fun W hW => by
      have e : peE i l.length = cE len := by unfold peE; rw [hln, if_neg h]
      refine ⟨_, by rw [e], ?_, hW⟩
      have e2 : ptR l i = [] := by unfold ptR; rw [e, if_neg h]
      rw [e2]
      exact ⟨none, 0, 0, rfl, SlF.nil _ _, Nat.le_refl _⟩
    generalize cE (len : Int) = ce at *
    clear hln
    go_enter Tryd.func17, Tryd.ntmps17
    go_wp2_with fail
    refine (KC.out _).mono ?_
    rintro _ w1 ⟨rfl, rfl⟩
    go_wp2
    go_ret2
    exact R.out _ (Below.refl _ _)
end Go.Proofs.YtlbaggljmbkfdaaDoor
