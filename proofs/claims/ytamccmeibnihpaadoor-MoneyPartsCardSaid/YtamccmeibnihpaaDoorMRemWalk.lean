/-
  The walk of the law on remainders.
-/
import Derived.Test.YtamccmeibnihpaaDoorMHead
import Derived.Test.YtamccmeibnihpaaDoorMLawMath
namespace Go.Proofs.YtamccmeibnihpaaDoor
open Go.RowKit

theorem size_lawfn (x : Int) (w : World) (h0 : -9223372036854775807 ≤ x) (h1 : x ≤ 9223372036854775807) : Calls Tryd.prog 16 #[.int .i64 x] w fun e w' => e = .returned (.int .i64 (ab x)) ∧ w' = w := by
  have e : ab x = max x (-x) := by unfold ab; split <;> omega
  rw [e]
  go_enter Tryd.func16, Tryd.ntmps16
  go_wp2
  go_ret
  exact ⟨rfl, rfl⟩

/-- The numbers that the laws compute of a weight. -/
structure Nums (c W x q r sx : Int) : Prop where
  prod : ab c * x = sx
  quo : sx / W = q
  quo' : sx.tdiv W = q
  rem : sx % W = r
  rem' : sx.tmod W = r
  p0 : 0 ≤ sx
  p1 : sx ≤ 1000000000000000
  q0 : 0 ≤ q
  q1 : q ≤ 1000000000
  r0 : 0 ≤ r
  r1 : r < W

theorem nums (c W : Int) (l : List Int) (k : Nat) (hk : k < l.length) (hs : l.sum = W) (hW : 0 < W) (hok : l.all wok = true) (hc : amt c = true) : Nums c W l[k] (ab c * l[k] / W) (ab c * l[k] % W) (ab c * l[k]) := by
  have hw := (wok_iff _).1 (List.all_eq_true.1 hok l[k] (List.getElem_mem hk))
  have hle := elem_le_sum l hok k hk
  rw [hs] at hle
  have hcb := (amt_iff c).1 hc
  have hab : 0 ≤ ab c ∧ ab c ≤ 1000000000 := by unfold ab; split <;> omega
  obtain ⟨q0, q1, q2, q3, q4⟩ := quot_bounds (ab c) W l[k] hW hab.1 hw.1 hle
  have h0 : 0 ≤ ab c * l[k] := Int.mul_nonneg hab.1 hw.1
  have h1 : ab c * l[k] ≤ 1000000000 * 1000000 := Int.mul_le_mul hab.2 hw.2 hw.1 (by omega)
  exact ⟨rfl, rfl, Int.tdiv_eq_ediv_of_nonneg h0, rfl, Int.tmod_eq_emod_of_nonneg h0, h0, by omega, q0, by omega, q3, q4⟩

set_option maxRecDepth 100000 in
set_option maxHeartbeats 8000000 in
theorem rem_law (c : Int) (l : List Int) (p : Option Addr) (b off cap len : Nat) (w : World) (hE : Tab w) (_c0 : -9223372036854775808 ≤ c) (_c1 : c ≤ 9223372036854775807) (hlen : l.length = len) (hp : 0 < len → p = some ⟨b, off, none⟩) (hA : At w b off l) (hm : len ≤ 9223372036854775807) (hb : 0 < len → b < w.heap.size) :
    Calls Tryd.prog 7 #[.int .i64 c, .slice p len cap] w fun e w' => e = .returned (.bool true) ∧ Below w.heap.size w w' := by
  have HE := Lib.hid hE
  have HL : Hid (l.length = len) := hlen
  have HA : Aside (At w b off l) := hA
  have HP : Aside (0 < len → p = some ⟨b, off, none⟩) := hp
  have HB : Aside (0 < len → b < w.heap.size) := hb
  have KA := Lib.hid (fun w : World => ramount_any c w)
  by_cases hg : amt c = true ∧ ¬ whole l = 0
  · obtain ⟨hc, hw⟩ := hg
    obtain ⟨f1, f2, f3, f4, f5, f6⟩ := whole_facts hw
    obtain ⟨W, hWe⟩ : ∃ W, W = whole l := ⟨_, rfl⟩
    rw [← hWe] at f3 f4 f5
    have hcb := (amt_iff c).1 hc
    rw [hc] at KA
    have hp1 := hp (by omega)
    have hbw := hb (by omega)
    have E1 : Hid (splL c l = partL c W l (len - 1)) := by show _ = _; unfold splL; rw [if_pos ⟨hc, hw⟩, hlen, hWe]
    have E2 : Hid (splE c l = 0) := by show _ = _; unfold splE; rw [if_pos ⟨hc, hw⟩]
    have HLn : Hid (l.length = len - 1 + 1) := by show _ = _; omega
    have HS : Hid (l.sum = W) := f3
    have HO : Hid (l.all wok = true) := f2
    have HC : Hid (amt c = true) := hc
    have HW : Hid (W = whole l) := hWe
    have hl1 : 0 < len := by omega
    have hl64 : len ≤ 64 := by omega
    have hWn : (W == 0) = false := by simp; omega
    have hsz : ab c ≤ 1000000000 ∧ 0 ≤ ab c := by unfold ab; split <;> omega
    clear hE hA hp hb hlen f1 f2 f3 f6 hw hc hWe
    subst hp1
    go_enter Tryd.func7, Tryd.ntmps7
    go_wp2_with fail
    refine (head_any _ HE.out).mono ?_
    rintro _ w1 ⟨rfl, hb1⟩
    have HB1 : Aside (Below w.heap.size w w1) := hb1
    have A1 : Aside (At w1 b off l) := HA.out.below hb1 hbw
    have hbw1 : b < w1.heap.size := Nat.lt_of_lt_of_le hbw hb1.size
    clear hb1
    go_wp2_with fail
    refine (split_any c l _ b off cap len _ HL.out (fun _ => rfl) A1.out hm (fun _ => hbw1)).mono ?_
    rintro _ w2 ⟨p', blk, rfl, hpp, hAt, hb2⟩
    rw [E1.out] at hpp hAt
    rw [E1.out, E2.out, partL_length, HL.out]
    rw [partL_length, HL.out] at hpp
    obtain ⟨e1, hblk, hblk2⟩ := hpp hl1
    subst e1
    have HB2 : Aside (Below w.heap.size w w2) := HB1.out.trans (hb2.mono HB1.out.size)
    have A2 : Aside (At w2 b off l) := A1.out.below hb2 hbw1
    have P2 : Aside (At w2 blk 0 (partL c W l (len - 1))) := hAt
    clear hb2 hAt HB1 A1 hpp E1 E2
    go_wp2_with fail
    refine (rwhole_any l _ b off cap len _ HL.out (fun _ => rfl) A2.out hm).mono ?_
    rw [← HW.out]
    rintro _ w3 ⟨rfl, rfl⟩
    go_wp2_with fail
    refine (KA.out _).mono ?_
    rintro _ w3 ⟨rfl, rfl⟩
    go_wp2
    go_loopg [9] len (fun kx vi wr => ∃ i : Nat, vi = .int .i64 i ∧ i ≤ len ∧ len - i ≤ kx ∧ Aside (∃ q, wr = w2.drewN q))
    case atStart => exact ⟨0, rfl, by omega, by omega, (⟨0, rfl⟩ : ∃ q, w2 = w2.drewN q)⟩
    case round =>
      obtain ⟨i, rfl, hi, hkx, HQ⟩ := hrel
      by_cases hlt : i < len
      · have hltz : (i : Int) < (len : Int) := by omega
        go_wp2
        go_loopg [10] len (fun kx vk wr => ∃ k : Nat, vk = .int .i64 k ∧ k ≤ len ∧ len - k ≤ kx ∧ Aside (∃ q, wr = w2.drewN q))
        case atStart => exact ⟨0, rfl, by omega, by omega, HQ⟩
        case round =>
          clear HQ
          obtain ⟨k, rfl, hk, hkx2, HQ⟩ := hrel
          by_cases hlt2 : k < len
          · have hltz2 : (k : Int) < (len : Int) := by omega
            have hil : i < l.length := by rw [HL.out]; exact hlt
            have hkl : k < l.length := by rw [HL.out]; exact hlt2
            have hiP : i < (partL c W l (len - 1)).length := by rw [partL_length]; exact hil
            have hkP : k < (partL c W l (len - 1)).length := by rw [partL_length]; exact hkl
            have N1 := nums c W l i hil HS.out f4 HO.out HC.out
            have N2 := nums c W l k hkl HS.out f4 HO.out HC.out
            have hrem := part_rem (n := len - 1) c W l i k hil hkl HLn.out HS.out f4 HO.out
            have fi := part_fair (n := len - 1) c W l i hil HLn.out HS.out f4 HO.out HC.out
            have fk := part_fair (n := len - 1) c W l k hkl HLn.out HS.out f4 HO.out HC.out
            have ami := (amt_iff _).1 fi.amount
            have amk := (amt_iff _).1 fk.amount
            obtain ⟨q0, hq0⟩ := HQ.out
            have ci : wr.cell? ⟨b, off + i, none⟩ = some (.int .i64 l[i]) := by rw [hq0]; exact A2.out i hil
            have ck : wr.cell? ⟨b, off + k, none⟩ = some (.int .i64 l[k]) := by rw [hq0]; exact A2.out k hkl
            have di : wr.cell? ⟨blk, i, none⟩ = some (.int .i64 (gj c W l ((upL c W l (len - 1)).map (·.val)) i)) := by
              have := P2.out i hiP
              rw [partL_get, Nat.zero_add] at this
              rw [hq0]; exact this
            have dk : wr.cell? ⟨blk, k, none⟩ = some (.int .i64 (gj c W l ((upL c W l (len - 1)).map (·.val)) k)) := by
              have := P2.out k hkP
              rw [partL_get, Nat.zero_add] at this
              rw [hq0]; exact this
            generalize gj c W l ((upL c W l (len - 1)).map (·.val)) i = pi at di ami fi hrem
            generalize gj c W l ((upL c W l (len - 1)).map (·.val)) k = pk at dk amk fk hrem
            generalize l[i] = xi at ci N1 hrem fi
            generalize l[k] = xk at ck N2 hrem fk
            generalize ab c * xi / W = qi at N1 hrem
            generalize ab c * xk / W = qk at N2 hrem
            generalize ab c * xi % W = ri at N1 hrem
            generalize ab c * xk % W = rk at N2 hrem
            generalize hsi : ab c * xi = si at N1
            generalize hsk : ab c * xk = sk at N2
            obtain ⟨_, i1, i2, i3, i4, i5, i6, i7, i8, i9, i10⟩ := N1
            obtain ⟨_, j1, j2, j3, j4, j5, j6, j7, j8, j9, j10⟩ := N2
            have w1 : IntKind.i64.wrap si = si := by rw [IntKind.wrap_i64]; omega
            have w2' : IntKind.i64.wrap sk = sk := by rw [IntKind.wrap_i64]; omega
            have w3 : IntKind.i64.wrap qi = qi := by rw [IntKind.wrap_i64]; omega
            have w4 : IntKind.i64.wrap qk = qk := by rw [IntKind.wrap_i64]; omega
            have w5 : IntKind.i64.wrap ri = ri := by rw [IntKind.wrap_i64]; omega
            have w6 : IntKind.i64.wrap rk = rk := by rw [IntKind.wrap_i64]; omega
            have z1 : (0 : Int) ≤ (i : Int) := by omega
            have z2 : (0 : Int) ≤ (k : Int) := by omega
            have hcase : (decide (qi < ab pi) = false) ∨ (decide (qi < ab pi) = true ∧ (ab pk == qk) = false) ∨ (decide (qi < ab pi) = true ∧ (ab pk == qk) = true ∧ decide (ri < rk) = false ∧ (ri == rk) = false) ∨ (decide (qi < ab pi) = true ∧ (ab pk == qk) = true ∧ decide (ri < rk) = false ∧ (ri == rk) = true ∧ decide (k < i) = false) := by
              by_cases h1 : qi < ab pi
              · by_cases h2 : ab pk = qk
                · have := hrem h1 h2
                  by_cases h3 : ri = rk
                  · right; right; right
                    exact ⟨decide_eq_true h1, by simp [h2], decide_eq_false (by omega), by simp [h3], decide_eq_false (by omega)⟩
                  · right; right; left
                    exact ⟨decide_eq_true h1, by simp [h2], decide_eq_false (by omega), by simp [h3]⟩
                · right; left
                  exact ⟨decide_eq_true h1, by simp [h2]⟩
              · left; exact decide_eq_false h1
            clear hrem fi fk hq0 hil hkl hiP hkP
            rcases hcase with t1 | ⟨t1, t2⟩ | ⟨t1, t2, t3, t4⟩ | ⟨t1, t2, t3, t4, t5⟩
            all_goals
              go_wp2_with fail
              go_quiet ((go_at_call 16; exact Calls.quiet_of_same (size_lawfn _ _ (by omega) (by omega))))
              have ci1 : (wr.drewN nq).cell? ⟨b, off + i, none⟩ = some (.int .i64 xi) := ci
              have ck1 : (wr.drewN nq).cell? ⟨b, off + k, none⟩ = some (.int .i64 xk) := ck
              have di1 : (wr.drewN nq).cell? ⟨blk, i, none⟩ = some (.int .i64 pi) := di
              have dk1 : (wr.drewN nq).cell? ⟨blk, k, none⟩ = some (.int .i64 pk) := dk
              have HQ1 : Aside (∃ q, wr.drewN nq = w2.drewN q) := by obtain ⟨q, hq⟩ := HQ.out; exact ⟨q + nq, by rw [hq, World.drewN_drewN]⟩
              clear ci ck di dk HQ
              generalize wr.drewN nq = wx1 at ci1 ck1 di1 dk1 HQ1 ⊢
              clear nq
              go_wp2_with fail
              go_quiet ((go_at_call 16; exact Calls.quiet_of_same (size_lawfn _ _ (by omega) (by omega))))
              have ci2 : (wx1.drewN nq).cell? ⟨b, off + i, none⟩ = some (.int .i64 xi) := ci1
              have ck2 : (wx1.drewN nq).cell? ⟨b, off + k, none⟩ = some (.int .i64 xk) := ck1
              have di2 : (wx1.drewN nq).cell? ⟨blk, i, none⟩ = some (.int .i64 pi) := di1
              have dk2 : (wx1.drewN nq).cell? ⟨blk, k, none⟩ = some (.int .i64 pk) := dk1
              have HQ2 : Aside (∃ q, wx1.drewN nq = w2.drewN q) := by obtain ⟨q, hq⟩ := HQ1.out; exact ⟨q + nq, by rw [hq, World.drewN_drewN]⟩
              clear ci1 ck1 di1 dk1 HQ1
              generalize wx1.drewN nq = wx2 at ci2 ck2 di2 dk2 HQ2 ⊢
              clear nq
              go_wp2_with fail
              go_quiet ((go_at_call 16; exact Calls.quiet_of_same (size_lawfn _ _ (by omega) (by omega))))
              have ci3 : (wx2.drewN nq).cell? ⟨b, off + i, none⟩ = some (.int .i64 xi) := ci2
              have ck3 : (wx2.drewN nq).cell? ⟨b, off + k, none⟩ = some (.int .i64 xk) := ck2
              have di3 : (wx2.drewN nq).cell? ⟨blk, i, none⟩ = some (.int .i64 pi) := di2
              have dk3 : (wx2.drewN nq).cell? ⟨blk, k, none⟩ = some (.int .i64 pk) := dk2
              have HQ3 : Aside (∃ q, wx2.drewN nq = w2.drewN q) := by obtain ⟨q, hq⟩ := HQ2.out; exact ⟨q + nq, by rw [hq, World.drewN_drewN]⟩
              clear ci2 ck2 di2 dk2 HQ2
              generalize wx2.drewN nq = wx3 at ci3 ck3 di3 dk3 HQ3 ⊢
              clear nq
              go_wp2_with fail
              go_quiet ((go_at_call 16; exact Calls.quiet_of_same (size_lawfn _ _ (by omega) (by omega))))
              have ci4 : (wx3.drewN nq).cell? ⟨b, off + i, none⟩ = some (.int .i64 xi) := ci3
              have ck4 : (wx3.drewN nq).cell? ⟨b, off + k, none⟩ = some (.int .i64 xk) := ck3
              have di4 : (wx3.drewN nq).cell? ⟨blk, i, none⟩ = some (.int .i64 pi) := di3
              have dk4 : (wx3.drewN nq).cell? ⟨blk, k, none⟩ = some (.int .i64 pk) := dk3
              have HQ4 : Aside (∃ q, wx3.drewN nq = w2.drewN q) := by obtain ⟨q, hq⟩ := HQ3.out; exact ⟨q + nq, by rw [hq, World.drewN_drewN]⟩
              clear ci3 ck3 di3 dk3 HQ3
              generalize wx3.drewN nq = wx4 at ci4 ck4 di4 dk4 HQ4 ⊢
              clear nq
              go_wp2
              go_roundg (len - (k + 1))
              case measure => omega
              case rel => exact ⟨k + 1, by go_num, by omega, by omega, HQ4⟩
          · have hltz2 : ¬ (k : Int) < (len : Int) := by omega
            go_wp2
            go_roundg (len - (i + 1))
            case measure => omega
            case rel => exact ⟨i + 1, by go_num, by omega, by omega, HQ⟩
      · have hltz : ¬ (i : Int) < (len : Int) := by omega
        have HB3 : Aside (Below w.heap.size w wr) := by obtain ⟨q, hq⟩ := HQ.out; rw [hq]; exact below_drewN HB2.out q
        go_wp2
        go_ret
        exact ⟨rfl, HB3.out⟩
  · have E1 : Hid (splL c l = []) := by show _ = _; unfold splL; rw [if_neg hg]
    have E2 : Hid (splE c l = 1) := by show _ = _; unfold splE; rw [if_neg hg]
    obtain ⟨W, hWe⟩ : ∃ W, W = whole l := ⟨_, rfl⟩
    have HW : Hid (W = whole l) := hWe
    rw [← hWe] at hg
    have hcase : amt c = false ∨ (amt c = true ∧ W = 0) := by
      cases hc : amt c with
      | false => left; rfl
      | true => right; exact ⟨rfl, Classical.byContradiction fun x => hg ⟨hc, x⟩⟩
    clear hE hA hp hb hlen hg hWe
    rcases hcase with hc | ⟨hc, rfl⟩
    all_goals
      rw [hc] at KA
      clear hc
      go_enter Tryd.func7, Tryd.ntmps7
      go_wp2_with fail
      refine (head_any _ HE.out).mono ?_
      rintro _ w1 ⟨rfl, hb1⟩
      have HB1 : Aside (Below w.heap.size w w1) := hb1
      have A1 : Aside (At w1 b off l) := fun k hk => by
        have hl := HL.out
        exact (HA.out.below hb1 (HB.out (by omega))) k hk
      have hbw1 : Hid (0 < len → b < w1.heap.size) := fun h => Nat.lt_of_lt_of_le (HB.out h) hb1.size
      clear hb1
      go_wp2_with fail
      refine (split_any c l _ b off cap len _ HL.out HP.out A1.out hm hbw1.out).mono ?_
      rintro _ w2 ⟨p', blk, rfl, _, _, hb2⟩
      rw [E1.out, E2.out]
      have HB2 : Aside (Below w.heap.size w w2) := HB1.out.trans (hb2.mono HB1.out.size)
      have A2 : Aside (At w2 b off l) := fun k hk => by
        have hl := HL.out
        exact (A1.out.below hb2 (hbw1.out (by omega))) k hk
      clear hb2 HB1 A1 E1 E2
      go_wp2_with fail
      refine (rwhole_any l _ b off cap len _ HL.out HP.out A2.out hm).mono ?_
      rw [← HW.out]
      rintro _ w3 ⟨rfl, rfl⟩
      go_wp2_with fail
      refine (KA.out _).mono ?_
      rintro _ w3 ⟨rfl, rfl⟩
      go_wp2
      go_ret
      exact ⟨rfl, HB2.out⟩
end Go.Proofs.YtamccmeibnihpaaDoor
