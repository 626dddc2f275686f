/-
  The law on numbers: digits that are written out have their value; zeros in front and at the end change nothing.
-/
import Derived.Test.YtoaeceeookknnaaDoorLDig
namespace Go.Proofs.YtoaeceeookknnaaDoor
open Go.RowKit Lx

theorem digits_y (x : Int) (m : Nat) (hx : x = m) (hm : m ≤ 10000000000) (w : World) :
    Calls Tryd.prog 18 #[.int .i64 x] w fun e w' => e = .returned (.string (bs (Lib.decDigits m))) ∧ RowKit.Below w.heap.size w w' := by
  subst hx; exact digits_any m w hm
theorem zeros_at : ∀ k, k ≤ 8 → (⟨#[48, 48, 48, 48, 48, 48, 48, 48]⟩ : ByteArray).extract 0 k = bs (List.replicate k 48) := by
  intro k hk
  have : ∀ j : Fin 9, (⟨#[48, 48, 48, 48, 48, 48, 48, 48]⟩ : ByteArray).extract 0 j.val = bs (List.replicate j.val 48) := by decide
  exact this ⟨k, by omega⟩
theorem valD_front : ∀ (k : Nat) (l : List UInt8), valD (List.replicate k 48 ++ l) = valD l
  | 0, l => by simp
  | k + 1, l => by
    rw [List.replicate_succ, List.cons_append]
    have := valD_front k l
    unfold valD at this ⊢
    rw [List.foldl_cons]
    exact this
theorem digs_front {k : Nat} {l : List UInt8} (h : digs l 9 = true) (hk : k + l.length ≤ 9) : digs (List.replicate k 48 ++ l) 9 = true := by
  obtain ⟨a1, a2, a3⟩ := digs_all h
  unfold digs
  rw [decide_eq_true (by simp [a1]), decide_eq_true (by simp only [List.length_append, List.length_replicate]; omega)]
  unfold allD at a3 ⊢
  rw [List.all_append, a3, List.all_replicate]
  have : dgt 48 = true := rfl
  simp [this]
/-- A digit. -/
def dd (d : Nat) : UInt8 := UInt8.ofNat (48 + d)
set_option maxRecDepth 100000 in
set_option maxHeartbeats 3000000 in
theorem num_main (n c z : Nat) (w : World) (hn : n ≤ 999999999) (hc : c ≤ 99) (hz : z ≤ 8) (p q E : Int) (hV : Vh (100 * n + c) = (p, q, E)) (L k : Nat) (hL : (Lib.decDigits n).length = L) (hk : (min (z : Int) (9 - (L : Int))).toNat = k) :
    Calls Tryd.prog 9 #[.int .i64 n, .int .i64 c, .int .i64 z] w fun e w' => e = .returned (.bool true) ∧ RowKit.Below w.heap.size w w' := by
  have K := Lib.hid digits_y
  have hL1 : 1 ≤ L ∧ L ≤ 9 := by
    obtain ⟨a1, a2, a3⟩ := dec_allD n
    have := dec_len 9 n (by decide) (by omega)
    refine ⟨?_, by omega⟩
    rw [← hL]
    cases h : Lib.decDigits n with
    | nil => exact absurd h a2
    | cons _ _ => simp
  have hk8 : k ≤ 8 ∧ k + L ≤ 9 := by omega
  have hdn : digs (Lib.decDigits n) 9 = true := by
    obtain ⟨a1, a2, a3⟩ := dec_allD n
    unfold digs
    rw [decide_eq_true a2, decide_eq_true (dec_len 9 n (by decide) (by omega)), a1]; rfl
  have hvn : valD (Lib.decDigits n) = n := (dec_allD n).2.2
  obtain ⟨A, hA⟩ : ∃ A, A = Lib.decDigits n := ⟨_, rfl⟩
  obtain ⟨F, hF⟩ : ∃ F, F = List.replicate k 48 ++ Lib.decDigits n := ⟨_, rfl⟩
  have HA : Hid (digs A 9 = true ∧ valD A = n ∧ A.length ≤ 9) := by subst hA; exact ⟨hdn, hvn, by omega⟩
  have HF : Hid (digs F 9 = true ∧ valD F = n ∧ F.length ≤ 9) := by
    subst hF
    exact ⟨digs_front hdn (by omega), by rw [valD_front, hvn], by simp only [List.length_append, List.length_replicate]; omega⟩
  have KD : Hid (∀ w : World, Calls Tryd.prog 18 #[.int .i64 n] w fun e w' => e = .returned (.string (bs A)) ∧ RowKit.Below w.heap.size w w') := by
    subst hA; exact fun w => digits_any n w (by omega)
  have KM : Hid (∀ w : World, Calls Tryd.prog 19 #[.int .i64 (100 * (n : Int) + (c : Int)), .int .i64 100] w fun e w' => e = .returned (.tuple #[.agg #[.int .i64 p, .int .i64 q], .int .i64 E]) ∧ RowKit.Below w.heap.size w w') := fun w => by
    have h := rmake_any (100 * (n : Int) + (c : Int)) 100 w (by omega) (by omega) (by omega) (by omega)
    have e : mk (100 * (n : Int) + (c : Int)) 100 = (p, q, E) := by
      rw [← hV]; unfold Vh
      congr 1
    rw [e] at h
    exact h
  have hzA : (bs A).size = L := by rw [bs_size, hA, hL]
  have EF : Hid ((⟨#[48, 48, 48, 48, 48, 48, 48, 48]⟩ : ByteArray).extract 0 k ++ bs A = bs F) := by
    show _ = _
    rw [zeros_at k hk8.1, bs_app, hF, hA]
  have HV := Lib.hid hV
  have e0 : decide ((n : Int) < 0) = false := decide_eq_false (by omega)
  have e1 : decide ((999999999 : Int) < (n : Int)) = false := decide_eq_false (by omega)
  have e2 : decide ((c : Int) < 0) = false := decide_eq_false (by omega)
  have e3 : decide ((99 : Int) < (c : Int)) = false := decide_eq_false (by omega)
  have e4 : decide ((z : Int) < 0) = false := decide_eq_false (by omega)
  have e5 : decide ((8 : Int) < (z : Int)) = false := decide_eq_false (by omega)
  clear hA hF hdn hvn hV hL
  go_enter Tryd.func9, Tryd.ntmps9
  go_wp2_with fail
  refine (head_any _).mono ?_
  rintro _ w1 ⟨rfl, hb⟩
  have B1 := Lib.hid hb
  clear hb
  go_wp2_with fail
  refine (KD.out _).mono ?_
  rintro _ w2 ⟨rfl, hb⟩
  have B2 := Lib.hid (B1.out.trans (hb.mono B1.out.size))
  clear hb B1
  go_wp2_with fail
  rw [EF.out]
  clear hk EF
  refine (KM.out _).mono ?_
  rintro _ w3 ⟨rfl, hb⟩
  have B3 := Lib.hid (B2.out.trans (hb.mono B2.out.size))
  clear hb B2
  go_wp2_with fail
  have B4 := Lib.hid ((B3.out.alloc B3.out.size (.cells #[.int .i64 p, .int .i64 q] 30)).alloc (by simp; have := B3.out.size; omega) (.cells #[.string (bs A), .string (bs F)] 9))
  obtain ⟨W4, hW4⟩ : ∃ W4, W4 = (w3.alloc (.cells #[.int .i64 p, .int .i64 q] 30)).alloc (.cells #[.string (bs A), .string (bs F)] 9) := ⟨_, rfl⟩
  have hsz4 : w3.heap.size + 2 = W4.heap.size := by rw [hW4]; simp
  have CA : Hid (W4.cell? ⟨w3.heap.size + 1, 0, none⟩ = some (.string (bs A))) := by show _ = _; rw [hW4]; simp
  have CF : Hid (W4.cell? ⟨w3.heap.size + 1, 1, none⟩ = some (.string (bs F))) := by show _ = _; rw [hW4]; simp
  have CP : Hid (W4.cell? ⟨w3.heap.size, 0, none⟩ = some (.int .i64 p)) := by show _ = _; rw [hW4]; simp
  have CQ : Hid (W4.cell? ⟨w3.heap.size, 1, none⟩ = some (.int .i64 q)) := by show _ = _; rw [hW4]; simp
  rw [← hW4] at B4 ⊢
  clear hW4 B3
  go_loopg [7, 69] 2 (fun g s7 s69 wr => ∃ i : Nat, s69 = .int .i64 i ∧ s7 = .bool true ∧ i ≤ 2 ∧ 2 - i ≤ g ∧ Hid (RowKit.Below W4.heap.size W4 wr))
  case atStart => exact ⟨0, rfl, rfl, by omega, by omega, Below.refl _ _⟩
  case round =>
    obtain ⟨i, rfl, rfl, hi, hig, HB⟩ := hrel
    by_cases hlt : i < 2
    · have hltz : (i : Int) < 2 := by omega
      have hx : ∃ x : List UInt8, wr.cell? ⟨w3.heap.size + 1, i, none⟩ = some (.string (bs x)) ∧ digs x 9 = true ∧ valD x = n ∧ x.length ≤ 9 := by
        have h01 : i = 0 ∨ i = 1 := by omega
        rcases h01 with rfl | rfl
        · exact ⟨A, (HB.out.cell (p := ⟨w3.heap.size + 1, 0, none⟩) (by show w3.heap.size + 1 < _; omega)).trans CA.out, HA.out⟩
        · exact ⟨F, (HB.out.cell (p := ⟨w3.heap.size + 1, 1, none⟩) (by show w3.heap.size + 1 < _; omega)).trans CF.out, HF.out⟩
      obtain ⟨x, hcx, hx1, hx2, hx3⟩ := hx
      have zx : (bs x).size ≤ 9 := by rw [bs_size]; exact hx3
      obtain ⟨d1, hd1⟩ : ∃ d, d = c / 10 := ⟨_, rfl⟩
      obtain ⟨d2, hd2⟩ : ∃ d, d = c % 10 := ⟨_, rfl⟩
      have K1 : Hid (∀ w : World, Calls Tryd.prog 18 #[.int .i64 ((c : Int) / 10)] w fun e w' => e = .returned (.string (bs [dd d1])) ∧ RowKit.Below w.heap.size w w') := fun w => by
        have h := K.out ((c : Int) / 10) d1 (by omega) (by omega) w
        rwa [dec_small (by omega)] at h
      have K2 : Hid (∀ w : World, Calls Tryd.prog 18 #[.int .i64 ((c : Int) % 10)] w fun e w' => e = .returned (.string (bs [dd d2])) ∧ RowKit.Below w.heap.size w w') := fun w => by
        have h := K.out ((c : Int) % 10) d2 (by omega) (by omega) w
        rwa [dec_small (by omega)] at h
      have z1 : (bs [dd d1]).size = 1 := rfl
      have z2 : (bs [dd d2]).size = 1 := rfl
      obtain ⟨m, hm⟩ : ∃ m, m = x.length := ⟨_, rfl⟩
      have hm9 : m ≤ 9 := by omega
      obtain ⟨S, hS⟩ : ∃ S, S = bs (x ++ [46, dd d1, dd d2]) := ⟨_, rfl⟩
      have hSz : S.size = m + 3 := by rw [hS, bs_size, hm, List.length_append]; rfl
      have hSd : S.data.toList = x ++ [46, dd d1, dd d2] := by rw [hS, bs_data]
      have ET : Hid (bs x ++ ((⟨#[46]⟩ ++ bs [dd d1]) ++ bs [dd d2]) = S) := by
        show _ = _
        rw [hS, show (⟨#[46]⟩ : ByteArray) = bs [46] from rfl, bs_app, bs_app, bs_app]; rfl
      have nm2 : Num (x ++ [46, dd d1, dd d2]) (100 * n + c) := by
        have h := num2 hx1 (d := d1) (e := d2) (by omega) (by omega)
        rw [hx2, show 100 * n + 10 * d1 + d2 = 100 * n + c by omega] at h
        exact h
      have hl2 := num_lex nm2 (by simp; omega)
      rw [HV.out] at hl2
      by_cases hE : E = 0
      · subst hE
        have hl3 : lex Vh (x ++ [46, dd d1, dd d2]) = .ok [⟨2, 0, [], p, q⟩] := hl2
        have KX := Lib.hid (fun w => lexK (s := S) (L := [⟨2, 0, [], p, q⟩]) (n := 1) (E := 0) (A := 0) w hSd hl3 rfl rfl rfl rfl (by omega))
        have X1 : Hid (d2 = 0 → ∀ w : World, Calls Tryd.prog 11 #[.string (S.extract 0 (m + 2))] w fun e w' => GivesN w 1 [⟨2, 0, [], p, q⟩] 0 0 e w') := fun h0 w => by
          have hd : (S.extract 0 (m + 2)).data.toList = x ++ [46, dd d1] := by
            rw [hS, bs_take, bs_data, hm, List.take_append]; simp [List.take_of_length_le]
          have nm1 : Num (x ++ [46, dd d1]) (100 * n + c) := by
            have h := num1 hx1 (d := d1) (by omega)
            rw [hx2, show 100 * n + 10 * d1 = 100 * n + c by omega] at h
            exact h
          have hl := num_lex nm1 (by simp; omega)
          rw [HV.out] at hl
          exact lexK (s := S.extract 0 (m + 2)) (L := [⟨2, 0, [], p, q⟩]) (n := 1) (E := 0) (A := 0) w hd hl rfl rfl rfl rfl (by rw [← len_bytes, hd]; simp; omega)
        have X0 : Hid (c = 0 → ∀ w : World, Calls Tryd.prog 11 #[.string (S.extract 0 m)] w fun e w' => GivesN w 1 [⟨2, 0, [], p, q⟩] 0 0 e w') := fun h0 w => by
          have hd : (S.extract 0 m).data.toList = x := by
            rw [hS, bs_take, bs_data, hm, List.take_append]; simp
          have nm0 : Num x (100 * n + c) := by
            have h := num0 hx1
            rw [hx2, show 100 * n = 100 * n + c by omega] at h
            exact h
          have hl := num_lex nm0 (by omega)
          rw [HV.out] at hl
          exact lexK (s := S.extract 0 m) (L := [⟨2, 0, [], p, q⟩]) (n := 1) (E := 0) (A := 0) w hd hl rfl rfl rfl rfl (by rw [← len_bytes, hd]; omega)
        have HD2 : Hid (c % 10 = 0 → d2 = 0) := fun h => by omega
        clear hl2 hl3 nm2 hSd hS hd1 hd2 hx1 hx2 hx3 hm
        go_wp2_with fail
        refine (K1.out _).mono ?_
        rintro _ w5 ⟨rfl, hb5⟩
        have B5 := Lib.hid (HB.out.trans (hb5.mono HB.out.size))
        clear hb5
        go_wp2_with fail
        refine (K2.out _).mono ?_
        rintro _ w6 ⟨rfl, hb6⟩
        have B6 := Lib.hid (B5.out.trans (hb6.mono B5.out.size))
        clear hb6 B5
        go_wp2_with fail
        rw [ET.out]
        refine (KX.out _).mono ?_
        rintro _ w7 ⟨q7, b7, cap7, rfl, s7, hc7, hb7⟩
        have B7 := Lib.hid (B6.out.trans (hb7.mono B6.out.size))
        have S7 := Lib.hid s7
        clear hb7 B6 s7
        have hp7 := S7.out.ptr (by decide)
        subst hp7
        obtain ⟨a0, a1, a2, a3, a4⟩ := S7.out.cells 0 (Nat.lt_succ_self 0)
        simp only [List.getElem_cons_zero, Nat.zero_mul, Nat.zero_add, bs] at a0 a1 a2 a3 a4
        have v0 := (B7.out.cell (p := ⟨w3.heap.size, 0, none⟩) (by show w3.heap.size < _; omega)).trans CP.out
        have v1 := (B7.out.cell (p := ⟨w3.heap.size, 1, none⟩) (by show w3.heap.size < _; omega)).trans CQ.out
        go_wp2_with fail
        go_quiet (fail)
        rename Nat => nq
        have B8 := Lib.hid (below_drewN B7.out nq)
        have S8 := Lib.hid (S7.out.bel (below_drewN (Below.refl w7.heap.size w7) nq))
        generalize w7.drewN nq = w8 at *
        clear B7 S7
        by_cases h10 : c % 10 = 0
        · have e10 : ((c : Int) % 10 == 0) = true := by simp; omega
          have y1 := X1.out (HD2.out h10)
          clear X1 HD2
          have Y1 := Lib.hid y1
          clear y1 a0 a1 a2 a3 a4 v0 v1
          go_wp2_with fail
          refine (Y1.out _).mono ?_
          rintro _ w9 ⟨q9, b9, cap9, rfl, s9, hc9, hb9⟩
          have B9 := Lib.hid (B8.out.trans (hb9.mono B8.out.size))
          have S9 := Lib.hid s9
          have T9 := Lib.hid (S8.out.bel hb9)
          clear hb9 s9 B8 S8
          have hp9 := S9.out.ptr (by decide)
          subst hp9
          obtain ⟨a0, a1, a2, a3, a4⟩ := S9.out.cells 0 (Nat.lt_succ_self 0)
          obtain ⟨c0, c1, c2, c3, c4⟩ := T9.out.cells 0 (Nat.lt_succ_self 0)
          simp only [List.getElem_cons_zero, Nat.zero_mul, Nat.zero_add, bs] at a0 a1 a2 a3 a4 c0 c1 c2 c3 c4
          go_wp2_with fail
          go_quiet (fail)
          rename Nat => nq
          have B10 := Lib.hid (below_drewN B9.out nq)
          have S10 := Lib.hid (T9.out.bel (below_drewN (Below.refl w9.heap.size w9) nq))
          generalize w9.drewN nq = w10 at *
          clear B9 S9 T9
          clear a0 a1 a2 a3 a4 c0 c1 c2 c3 c4
          by_cases hc0 : c = 0
          · have e11 : ((c : Int) == 0) = true := by simp; omega
            have y0 := X0.out hc0
            clear X0
            have Y0 := Lib.hid y0
            clear y0 hc0 h10
            go_wp2_with fail
            refine (Y0.out _).mono ?_
            rintro _ w11 ⟨q11, b11, cap11, rfl, s11, hc11, hb11⟩
            have B11 := Lib.hid (B10.out.trans (hb11.mono B10.out.size))
            have S11 := Lib.hid s11
            have T11 := Lib.hid (S10.out.bel hb11)
            clear hb11 s11 B10 S10
            have hp11 := S11.out.ptr (by decide)
            subst hp11
            obtain ⟨a0, a1, a2, a3, a4⟩ := S11.out.cells 0 (Nat.lt_succ_self 0)
            obtain ⟨c0, c1, c2, c3, c4⟩ := T11.out.cells 0 (Nat.lt_succ_self 0)
            simp only [List.getElem_cons_zero, Nat.zero_mul, Nat.zero_add, bs] at a0 a1 a2 a3 a4 c0 c1 c2 c3 c4
            go_wp2_with fail
            go_quiet (fail)
            rename Nat => nq
            have B12 := Lib.hid (below_drewN B11.out nq)
            have S12 := Lib.hid (T11.out.bel (below_drewN (Below.refl w11.heap.size w11) nq))
            generalize w11.drewN nq = w12 at *
            clear B11 S11 T11
            go_wp2_with fail
            go_roundg (2 - (i + 1))
            case measure => omega
            case rel => exact ⟨i + 1, by go_num, rfl, by omega, by omega, B12.out⟩
          · have e11 : ((c : Int) == 0) = false := by simp; omega
            clear hc0 h10
            go_wp2_with fail
            go_roundg (2 - (i + 1))
            case measure => omega
            case rel => exact ⟨i + 1, by go_num, rfl, by omega, by omega, B10.out⟩
        · have e10 : ((c : Int) % 10 == 0) = false := by simp; omega
          have e11 : ((c : Int) == 0) = false := by simp; omega
          clear h10
          go_wp2_with fail
          go_roundg (2 - (i + 1))
          case measure => omega
          case rel => exact ⟨i + 1, by go_num, rfl, by omega, by omega, B8.out⟩
      · have hE3 : E = 3 := by
          have h := HV.out
          unfold Vh at h
          exact (mk_err (by decide) h hE).2.2
        subst hE3
        have hl3 : lex Vh (x ++ [46, dd d1, dd d2]) = .er 3 0 := hl2
        have KX := Lib.hid (fun w => lexK (s := S) (L := []) (n := 0) (E := 3) (A := 0) w hSd hl3 rfl rfl rfl rfl (by omega))
        clear hl2 hl3 nm2 hSd hS hE hd1 hd2 hx1 hx2 hx3 hm
        go_wp2_with fail
        refine (K1.out _).mono ?_
        rintro _ w5 ⟨rfl, hb5⟩
        have B5 := Lib.hid (HB.out.trans (hb5.mono HB.out.size))
        clear hb5
        go_wp2_with fail
        refine (K2.out _).mono ?_
        rintro _ w6 ⟨rfl, hb6⟩
        have B6 := Lib.hid (B5.out.trans (hb6.mono B5.out.size))
        clear hb6 B5
        go_wp2_with fail
        rw [ET.out]
        refine (KX.out _).mono ?_
        rintro _ w7 ⟨q7, b7, cap7, rfl, s7, hc7, hb7⟩
        have B7 := Lib.hid (B6.out.trans (hb7.mono B6.out.size))
        clear hb7 B6 s7
        go_wp2_with fail
        go_roundg (2 - (i + 1))
        case measure => omega
        case rel => exact ⟨i + 1, by go_num, rfl, by omega, by omega, B7.out⟩
    · have hltz : ¬ (i : Int) < 2 := by omega
      go_wp2_with fail
      go_ret
      exact ⟨rfl, B4.out.trans (HB.out.mono B4.out.size)⟩
set_option maxRecDepth 100000 in
set_option maxHeartbeats 1000000 in
theorem num_up (n c z : Int) (w : World) (h : n < 0 ∨ 999999999 < n ∨ c < 0 ∨ 99 < c ∨ z < 0 ∨ 8 < z) :
    Calls Tryd.prog 9 #[.int .i64 n, .int .i64 c, .int .i64 z] w fun e w' => e = .returned (.bool true) ∧ RowKit.Below w.heap.size w w' := by
  have e : (n < 0) ∨ (¬ n < 0 ∧ 999999999 < n) ∨ (¬ n < 0 ∧ ¬ 999999999 < n ∧ c < 0) ∨ (¬ n < 0 ∧ ¬ 999999999 < n ∧ ¬ c < 0 ∧ 99 < c) ∨ (¬ n < 0 ∧ ¬ 999999999 < n ∧ ¬ c < 0 ∧ ¬ 99 < c ∧ z < 0) ∨ (¬ n < 0 ∧ ¬ 999999999 < n ∧ ¬ c < 0 ∧ ¬ 99 < c ∧ ¬ z < 0 ∧ 8 < z) := by omega
  clear h
  rcases e with h1 | ⟨h1, h2⟩ | ⟨h1, h2, h3⟩ | ⟨h1, h2, h3, h4⟩ | ⟨h1, h2, h3, h4, h5⟩ | ⟨h1, h2, h3, h4, h5, h6⟩
  all_goals
    go_enter Tryd.func9, Tryd.ntmps9
    go_wp2_with fail
    refine (head_any _).mono ?_
    rintro _ w1 ⟨rfl, hb⟩
    have B1 := Lib.hid hb
    clear hb
    go_wp2_with fail
    go_ret
    exact ⟨rfl, B1.out⟩
theorem numbers_law (n c z : Int) (w : World) :
    Calls Tryd.prog 9 #[.int .i64 n, .int .i64 c, .int .i64 z] w fun e w' => e = .returned (.bool true) ∧ RowKit.Below w.heap.size w w' := by
  by_cases h : n < 0 ∨ 999999999 < n ∨ c < 0 ∨ 99 < c ∨ z < 0 ∨ 8 < z
  · exact num_up n c z w h
  · obtain ⟨n', rfl⟩ : ∃ m : Nat, n = m := ⟨n.toNat, by omega⟩
    obtain ⟨c', rfl⟩ : ∃ m : Nat, c = m := ⟨c.toNat, by omega⟩
    obtain ⟨z', rfl⟩ : ∃ m : Nat, z = m := ⟨z.toNat, by omega⟩
    exact num_main n' c' z' w (by omega) (by omega) (by omega) _ _ _ rfl _ _ rfl rfl
end Go.Proofs.YtoaeceeookknnaaDoor
