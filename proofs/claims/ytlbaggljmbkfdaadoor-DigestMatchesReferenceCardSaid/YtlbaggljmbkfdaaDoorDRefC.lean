/-
  The reference's trees: contracts of Root, Path, Check.
-/
import Derived.Test.YtlbaggljmbkfdaaDoorDRefB
namespace Go.Proofs.YtlbaggljmbkfdaaDoor
open Go.RowKit Dg

set_option maxRecDepth 100000 in
set_option maxHeartbeats 1000000 in
theorem rroot_any (l : List Nat) (p : Option Addr) (b off cap len : Nat) (w : World) (hS : SlF u64v w p b off len l) :
    Calls Tryd.prog 16 #[.slice p len cap] w fun e w' => e = .returned (.tuple #[.int .u64 (rtR l : Nat), .int .i64 (cE len)]) ∧ RowKit.Below w.heap.size w w' := by
  have HS := Lib.hid hS
  have HL := Lib.hid hS.ln
  have KC := Lib.hid (fun w => rtree_any (len : Int) w (by omega))
  obtain ⟨ce, hce⟩ : ∃ ce, ce = cE (len : Int) := ⟨_, rfl⟩
  rw [← hce] at KC ⊢
  have hln := hS.ln
  clear hS
  by_cases h : ce = 0
  · have h1 := cE_pos (n := len) (by rw [← hce]; exact h)
    have E : rtR l = rt l := by unfold rtR; rw [hln, ← hce, if_pos h]
    rw [E, h]
    rw [h] at KC
    have hl1 : 1 ≤ len := by omega
    have hl2 : len ≤ 1024 := by omega
    have KF := Lib.hid (fun w hS => rfirst_any l p b off cap len w hS (by omega))
    have HLV : Hid ((lv l).length = len) := by show _ = _; unfold lv; rw [List.length_map, hln]
    clear h1 E h hce hln
    go_enter Tryd.func16, Tryd.ntmps16
    go_wp2_with fail
    refine (KC.out _).mono ?_
    rintro _ w1 ⟨rfl, rfl⟩
    go_wp2_with fail
    refine (KF.out _ HS.out).mono ?_
    rintro _ w2 ⟨q0, b0, cap0, rfl, hs2, _, hb2⟩
    rw [HLV.out] at hs2
    (try rw [HLV.out])
    have HS2 := Lib.hid hs2
    have HB2 := Lib.hid hb2
    clear hs2 hb2 KC KF
    go_wp2_with fail
    go_loopg [5] len (fun gg s5 wr => ∃ (g n c : Nat) (L : List Nat) (q : Option Addr), s5 = .slice q n c ∧ 1 ≤ n ∧ n ≤ len ∧ n ≤ gg ∧ Hid (SlF u64v wr q g 0 n L) ∧ Hid (rtV L = rt l) ∧ Hid (RowKit.Below w1.heap.size w1 wr))
    case atStart => exact ⟨b0, len, cap0, lv l, q0, rfl, hl1, Nat.le_refl _, Nat.le_refl _, HS2.out, rfl, HB2.out⟩
    case round =>
      obtain ⟨g, n, c, L, q, rfl, hn1, hnl, hng, HSL, HR, HB⟩ := hrel
      clear HS2 HB2
      by_cases hlt : 1 < n
      · have hltz : (1 : Int) < (n : Int) := by omega
        have KN := Lib.hid (fun w hS => rup_any L q g 0 c n w hS (by omega))
        obtain ⟨N, hN⟩ : ∃ N, N = (n + 1) / 2 := ⟨_, rfl⟩
        have HUN : Hid ((upL L).length = N) := by show _ = _; rw [upL_len, HSL.out.ln, hN]
        have hN1 : 1 ≤ N := by omega
        have hN2 : N < n := by omega
        clear hN
        go_wp2_with fail
        refine (KN.out _ HSL.out).mono ?_
        rintro _ w3 ⟨q3, b3, cap3, rfl, hs3, _, hb3⟩
        rw [HUN.out] at hs3
        (try rw [HUN.out])
        have HS3 := Lib.hid hs3
        have HB3 := Lib.hid (HB.out.trans (hb3.mono HB.out.size))
        clear hs3 hb3 KN
        go_wp2
        go_roundg N
        case measure => omega
        case rel => exact ⟨b3, N, cap3, upL L, q3, rfl, hN1, by omega, Nat.le_refl _, HS3.out, by show _ = _; rw [rtV_up]; exact HR.out, HB3.out⟩
      · obtain rfl : n = 1 := by omega
        have hL1 : L.length = 1 := HSL.out.ln
        have c0 := HSL.out.cells 0 (by omega)
        have hp := HSL.out.ptr (by omega)
        subst hp
        have HE : Hid (L[0] = rt l) := by
          have := HR.out
          rw [rtV_short (by omega), List.getElem?_eq_getElem (by omega)] at this
          exact this
        generalize L[0] = x at *
        unfold u64v at c0
        go_wp2
        go_ret2
        exact ⟨ret2_u64 (by rw [HE.out]), HB.out⟩
  · have E : rtR l = 0 := by unfold rtR; rw [hln, ← hce, if_neg h]
    rw [E]
    clear hce hln E
    go_enter Tryd.func16, Tryd.ntmps16
    go_wp2_with fail
    refine (KC.out _).mono ?_
    rintro _ w1 ⟨rfl, rfl⟩
    go_wp2
    go_ret2
    exact ⟨rfl, Below.refl _ _⟩

set_option maxRecDepth 100000 in
set_option maxHeartbeats 2000000 in
theorem rpath_any (l : List Nat) (p : Option Addr) (b off cap len : Nat) (i : Int) (w : World) (hS : SlF u64v w p b off len l) :
    Calls Tryd.prog 18 #[.slice p len cap, .int .i64 i] w fun e w' => OutP l i w e w' := by
  have HS := Lib.hid hS
  have HL := Lib.hid hS.ln
  have KC := Lib.hid (fun w => rtree_any (len : Int) w (by omega))
  have hln := hS.ln
  clear hS
  by_cases h : cE (len : Int) = 0
  · have h1 := cE_pos h
    have hl1 : 1 ≤ len := by omega
    have hl2 : len ≤ 1024 := by omega
    rw [h] at KC
    cases hI : isI i (len : Int) with
    | false =>
      have R : Hid (∀ W, RowKit.Below w.heap.size w W → OutP l i w (.returned (.tuple #[.slice none 0 0, .int .i64 1])) W) := fun W hW => by
        have e : peE i l.length = 1 := by unfold peE; rw [hln, h, if_pos rfl, hI]; rfl
        refine ⟨_, by rw [e], ?_, hW⟩
        have e2 : ptR l i = [] := by unfold ptR; rw [e, if_neg (by decide)]
        rw [e2]
        exact ⟨none, 0, 0, rfl, SlF.nil _ _, Nat.le_refl _⟩
      have hout : ¬ (0 ≤ i ∧ i < (len : Int)) := fun x => by
        unfold isI at hI
        rw [decide_eq_true x.1, decide_eq_true x.2] at hI
        cases hI
      clear hI h h1 hln
      by_cases hneg : i < 0
      · go_enter Tryd.func18, Tryd.ntmps18
        go_wp2_with fail
        refine (KC.out _).mono ?_
        rintro _ w1 ⟨rfl, rfl⟩
        go_wp2
        go_ret2
        exact R.out _ (Below.refl _ _)
      · have hge : (len : Int) ≤ i := by omega
        have hnegd : decide (i < 0) = false := decide_eq_false hneg
        go_enter Tryd.func18, Tryd.ntmps18
        go_wp2_with fail
        refine (KC.out _).mono ?_
        rintro _ w1 ⟨rfl, rfl⟩
        go_wp2
        go_ret2
        exact R.out _ (Below.refl _ _)
    | true =>
      obtain ⟨j0, rfl⟩ : ∃ j0 : Nat, i = (j0 : Int) := ⟨i.toNat, by
        unfold isI at hI
        simp only [Bool.and_eq_true, decide_eq_true_eq] at hI
        omega⟩
      have hj0 : j0 < len := by
        unfold isI at hI
        simp only [Bool.and_eq_true, decide_eq_true_eq] at hI
        omega
      have R : Hid (∀ v W, RowKit.Below w.heap.size w W → OutS u64v W v (pt l j0) → OutP l j0 w (.returned (.tuple #[v, .int .i64 0])) W) := fun v W hW hv => by
        have e : peE (j0 : Int) l.length = 0 := by unfold peE; rw [hln, h, if_pos rfl, hI]; rfl
        refine ⟨v, by rw [e], ?_, hW⟩
        have e2 : ptR l j0 = pt l j0 := by unfold ptR; rw [e, if_pos rfl, Int.toNat_natCast]
        rw [e2]
        exact hv
      have HPL : Hid ((pt l j0).length ≤ 10) := pt_le l j0 (by omega)
      have hnn : ¬ (j0 : Int) < 0 := by omega
      have hnnd : decide ((j0 : Int) < 0) = false := decide_eq_false hnn
      have hlj : ¬ (len : Int) ≤ (j0 : Int) := by omega
      have hljd : decide ((len : Int) ≤ (j0 : Int)) = false := decide_eq_false hlj
      have HLV : Hid ((lv l).length = len) := by show _ = _; unfold lv; rw [List.length_map, hln]
      have KF := Lib.hid (fun w hS => rfirst_any l p b off cap len w hS (by omega))
      clear hI h h1 hln
      go_enter Tryd.func18, Tryd.ntmps18
      go_wp2_with fail
      refine (KC.out _).mono ?_
      rintro _ w1 ⟨rfl, rfl⟩
      go_wp2_with fail
      refine (KF.out _ HS.out).mono ?_
      rintro _ w2 ⟨q0, b0, cap0, rfl, hs2, _, hb2⟩
      rw [HLV.out] at hs2
      (try rw [HLV.out])
      have HS2 := Lib.hid hs2
      have HB2 := Lib.hid hb2
      clear hs2 hb2 KC KF
      go_wp2_with fail
      go_loopg [1, 7, 8] len (fun gg s1 s7 s8 wr => ∃ (j g n c : Nat) (L P : List Nat) (q : Option Addr), s1 = .int .i64 j ∧ s8 = .slice q n c ∧ 1 ≤ n ∧ n ≤ len ∧ n ≤ gg ∧ j < n ∧ Hid (SlF u64v wr q g 0 n L) ∧ Hid (Own 25 u64v wr w1.heap.size s7 P) ∧ Hid (P ++ ptV L j = pt l j0) ∧ Hid (∀ k, s7.ownBlock = some k → k ≠ g) ∧ Hid (RowKit.Below w1.heap.size w1 wr))
      case atStart => exact ⟨j0, b0, len, cap0, lv l, [], q0, rfl, rfl, hl1, Nat.le_refl _, Nat.le_refl _, hj0, HS2.out, Own.empty, rfl, (fun k hk => by cases hk), HB2.out⟩
      case round =>
        obtain ⟨j, g, n, c, L, P, q, rfl, rfl, hn1, hnl, hng, hjn, HSL, HO, HR, HNE, HB⟩ := hrel
        clear HS2 HB2
        by_cases hlt : 1 < n
        · have hltz : (1 : Int) < (n : Int) := by omega
          have KN := Lib.hid (fun w hS => rup_any L q g 0 c n w hS (by omega))
          have hL : L.length = n := HSL.out.ln
          have HPT : Hid (ptV L j = bes L j ++ ptV (upL L) (j / 2)) := ptV_long (by omega)
          have hqp := HSL.out.ptr (by omega)
          obtain ⟨N, hN⟩ : ∃ N, N = (n + 1) / 2 := ⟨_, rfl⟩
          have HUN : Hid ((upL L).length = N) := by show _ = _; rw [upL_len, hL, hN]
          have hN1 : 1 ≤ N := by omega
          have hN2 : N < n := by omega
          obtain ⟨j2, hj2⟩ : ∃ N, N = j / 2 := ⟨_, rfl⟩
          rw [← hj2] at HPT
          have hj2N : j2 < N := by omega
          have hjz : (j : Int) / 2 = (j2 : Int) := by omega
          have HJ2 := Lib.hid hj2
          have HBLT : Hid (g < wr.heap.size) := HSL.out.lt (by omega)
          clear hN hj2
          subst hqp
          have hPl : P.length ≤ 10 := by
            have := congrArg List.length HR.out
            rw [List.length_append] at this
            have h2 := HPL.out
            omega
          by_cases hodd : j % 2 = 1
          · have hjm : (j : Int) % 2 = 1 := by omega
            have hk : j - 1 < L.length := by omega
            have c1 := HSL.out.cells (j - 1) hk
            obtain ⟨x, hx⟩ : ∃ x, x = L[j - 1] := ⟨_, rfl⟩
            have hB : bes L j = [x] := by unfold bes; rw [if_pos hodd, List.getElem?_eq_getElem hk, hx]; rfl
            rw [← hx, Nat.zero_add] at c1
            rw [hB] at HPT
            have hjw : (j : Int) - 1 = ((j - 1 : Nat) : Int) := by omega
            have hjw2 : ((j - 1 : Nat) : Int) < (n : Int) := by omega
            clear hx hB hk
            generalize j - 1 = m at *
            unfold u64v at c1
            go_wp2_with (first | (at_builtin; refine list_app (f := u64v) el64 u64_one rfl _ _ rfl w1.heap.size u7 P rfl (HO.out.alloc _) ⟨_, 0, none⟩ 1 1 [x] rfl rfl (news1 (f := u64v) wr x _) (by omega) (by have := HB.out.size; rw [World.size_alloc]; omega) ?_; intro v5 W5 own5 grow5 _) | fail)
            have HB5 := Lib.hid ((HB.out.alloc HB.out.size (.cells #[.int .u64 x] 25)).grown grow5 (by have := HB.out.size; rw [World.size_alloc]; omega) HO.out.block)
            have HSL5 := Lib.hid ((HSL.out.alloc (.cells #[.int .u64 x] 25)).grown grow5 HNE.out)
            have HO5 := Lib.hid own5
            clear own5 grow5
            go_wp2_with fail
            refine (KN.out _ HSL5.out).mono ?_
            rintro _ w5 ⟨q5, b5, cap5, rfl, hs5, hnew, hb5⟩
            rw [HUN.out] at hs5 hnew
            (try rw [HUN.out])
            have HS5 := Lib.hid hs5
            have HNW5 := Lib.hid (hnew (by omega))
            have HB6 := Lib.hid (HB5.out.trans (hb5.mono HB5.out.size))
            have HO6 := Lib.hid (HO5.out.below hb5)
            have HNE6 := Lib.hid HO5.out.blt
            clear hs5 hb5 hnew
            go_wp2
            go_roundg N
            case measure => omega
            case rel => exact ⟨j2, b5, N, cap5, upL L, _, q5, rfl, rfl, hN1, by omega, Nat.le_refl _, hj2N, HS5.out, HO6.out, by show _ = _; rw [List.append_assoc, ← HPT.out]; exact HR.out, (fun k hk => by have := HNE6.out k hk; have := HNW5.out; omega), HB6.out⟩
          · by_cases hbs : j + 1 < n
            · have hjm : (j : Int) % 2 = 0 := by omega
              have hjm2 : ((j : Int) % 2 == 1) = false := by rw [beq_eq_false_iff_ne]; omega
              have hk : j + 1 < L.length := by omega
              have c1 := HSL.out.cells (j + 1) hk
              obtain ⟨x, hx⟩ : ∃ x, x = L[j + 1] := ⟨_, rfl⟩
              have hB : bes L j = [x] := by unfold bes; rw [if_neg hodd, if_pos (by omega), List.getElem?_eq_getElem hk, hx]; rfl
              rw [← hx, Nat.zero_add] at c1
              rw [hB] at HPT
              have hjw : (j : Int) + 1 = ((j + 1 : Nat) : Int) := by omega
              have hjw2 : ((j + 1 : Nat) : Int) < (n : Int) := by omega
              clear hx hB hk
              generalize j + 1 = m at *
              unfold u64v at c1
              go_wp2_with (first | (at_builtin; refine list_app (f := u64v) el64 u64_one rfl _ _ rfl w1.heap.size u7 P rfl (HO.out.alloc _) ⟨_, 0, none⟩ 1 1 [x] rfl rfl (news1 (f := u64v) wr x _) (by omega) (by have := HB.out.size; rw [World.size_alloc]; omega) ?_; intro v5 W5 own5 grow5 _) | fail)
              have HB5 := Lib.hid ((HB.out.alloc HB.out.size (.cells #[.int .u64 x] 25)).grown grow5 (by have := HB.out.size; rw [World.size_alloc]; omega) HO.out.block)
              have HSL5 := Lib.hid ((HSL.out.alloc (.cells #[.int .u64 x] 25)).grown grow5 HNE.out)
              have HO5 := Lib.hid own5
              clear own5 grow5
              go_wp2_with fail
              refine (KN.out _ HSL5.out).mono ?_
              rintro _ w5 ⟨q5, b5, cap5, rfl, hs5, hnew, hb5⟩
              rw [HUN.out] at hs5 hnew
              (try rw [HUN.out])
              have HS5 := Lib.hid hs5
              have HNW5 := Lib.hid (hnew (by omega))
              have HB6 := Lib.hid (HB5.out.trans (hb5.mono HB5.out.size))
              have HO6 := Lib.hid (HO5.out.below hb5)
              have HNE6 := Lib.hid HO5.out.blt
              clear hs5 hb5 hnew
              go_wp2
              go_roundg N
              case measure => omega
              case rel => exact ⟨j2, b5, N, cap5, upL L, _, q5, rfl, rfl, hN1, by omega, Nat.le_refl _, hj2N, HS5.out, HO6.out, by show _ = _; rw [List.append_assoc, ← HPT.out]; exact HR.out, (fun k hk => by have := HNE6.out k hk; have := HNW5.out; omega), HB6.out⟩
            · have hjm : (j : Int) % 2 = 0 := by omega
              have hjm2 : ((j : Int) % 2 == 1) = false := by rw [beq_eq_false_iff_ne]; omega
              have hB : bes L j = [] := by unfold bes; rw [if_neg hodd, if_neg (by omega)]
              have hjw2 : ¬ (j : Int) + 1 < (n : Int) := by omega
              rw [hB, List.nil_append] at HPT
              clear hB
              go_wp2_with fail
              refine (KN.out _ HSL.out).mono ?_
              rintro _ w5 ⟨q5, b5, cap5, rfl, hs5, hnew, hb5⟩
              rw [HUN.out] at hs5 hnew
              (try rw [HUN.out])
              have HS5 := Lib.hid hs5
              have HNW5 := Lib.hid (hnew (by omega))
              have HB6 := Lib.hid (HB.out.trans (hb5.mono HB.out.size))
              have HO6 := Lib.hid (HO.out.below hb5)
              have HNE6 := Lib.hid HO.out.blt
              clear hs5 hb5 hnew
              go_wp2
              go_roundg N
              case measure => omega
              case rel => exact ⟨j2, b5, N, cap5, upL L, P, q5, rfl, rfl, hN1, by omega, Nat.le_refl _, hj2N, HS5.out, HO6.out, by show _ = _; rw [← HPT.out]; exact HR.out, (fun k hk => by have := HNE6.out k hk; have := HNW5.out; omega), HB6.out⟩
        · obtain rfl : n = 1 := by omega
          have hL1 : L.length = 1 := HSL.out.ln
          have HE : P = pt l j0 := by
            have := HR.out
            rw [ptV_short (by omega), List.append_nil] at this
            exact this
          subst HE
          have HF := Lib.hid (R.out u7 wr HB.out (HO.out.reads (by have := HPL.out; omega)))
          go_wp2
          go_ret2
          exact HF.out
  · have R : Hid (∀ W, RowKit.Below w.heap.size w W → OutP l i w (.returned (.tuple #[.slice none 0 0, .int .i64 (cE len)])) W) := fun W hW => by
      have e : peE i l.length = cE len := by unfold peE; rw [hln, if_neg h]
      refine ⟨_, by rw [e], ?_, hW⟩
      have e2 : ptR l i = [] := by unfold ptR; rw [e, if_neg h]
      rw [e2]
      exact ⟨none, 0, 0, rfl, SlF.nil _ _, Nat.le_refl _⟩
    generalize cE (len : Int) = ce at *
    clear hln
    go_enter Tryd.func18, Tryd.ntmps18
    go_wp2_with fail
    refine (KC.out _).mono ?_
    rintro _ w1 ⟨rfl, rfl⟩
    go_wp2
    go_ret2
    exact R.out _ (Below.refl _ _)
end Go.Proofs.YtlbaggljmbkfdaaDoor
