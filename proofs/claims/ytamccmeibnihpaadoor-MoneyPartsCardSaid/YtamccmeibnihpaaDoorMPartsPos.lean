/-
  The walk of the law on parts, where it divides: 0 < c.
-/
import Derived.Test.YtamccmeibnihpaaDoorMRemWalk
namespace Go.Proofs.YtamccmeibnihpaaDoor
open Go.RowKit

set_option maxRecDepth 100000 in
set_option maxHeartbeats 8000000 in
theorem parts_pos (c : Int) (l : List Int) (p : Option Addr) (b off cap len : Nat) (w : World) (hE : Tab w) (hlen : l.length = len) (hp : 0 < len → p = some ⟨b, off, none⟩) (hA : At w b off l) (hm : len ≤ 9223372036854775807) (hb : 0 < len → b < w.heap.size) (hg : amt c = true ∧ ¬ whole l = 0) (hc0 : 0 < c) :
    Calls Tryd.prog 6 #[.int .i64 c, .slice p len cap] w fun e w' => e = .returned (.bool true) ∧ Below w.heap.size w w' := by
  have HE := Lib.hid hE
  have HL : Hid (l.length = len) := hlen
  have HA : Aside (At w b off l) := hA
  have HP : Aside (0 < len → p = some ⟨b, off, none⟩) := hp
  have HB : Aside (0 < len → b < w.heap.size) := hb
  have KA := Lib.hid (fun w : World => ramount_any c w)
  obtain ⟨hc, hw⟩ := hg
  obtain ⟨f1, f2, f3, f4, f5, f6⟩ := whole_facts hw
  obtain ⟨W, hWe⟩ : ∃ W, W = whole l := ⟨_, rfl⟩
  rw [← hWe] at f3 f4 f5
  have hcb := (amt_iff c).1 hc
  rw [hc] at KA
  have hp1 := hp (by omega)
  have hbw := hb (by omega)
  have E1 : Hid (splL c l = partL c W l (len - 1)) := by show _ = _; unfold splL; rw [if_pos ⟨hc, hw⟩, hlen, hWe]
  have E2 : Hid (splE c l = 0) := by show _ = _; unfold splE; rw [if_pos ⟨hc, hw⟩]
  have HLn : Hid (l.length = len - 1 + 1) := by show _ = _; omega
  have HS : Hid (l.sum = W) := f3
  have HO : Hid (l.all wok = true) := f2
  have HC : Hid (amt c = true) := hc
  have HW : Hid (W = whole l) := hWe
  have hl1 : 0 < len := by omega
  have hl64 : len ≤ 64 := by omega
  have hWn : (W == 0) = false := by simp; omega
  have hsz : ab c ≤ 1000000000 ∧ 0 ≤ ab c := by unfold ab; split <;> omega
  clear hE hA hp hb hlen f1 f2 f3 f6 hw hc hWe
  subst hp1
  have hsum0 : Hid ((partL c W l (len - 1)).sum = c) := parts_sum c W l HLn.out HS.out f4 HO.out
  have s1 : decide (0 ≤ c) = true := decide_eq_true (by omega)
  have s2 : decide (c ≤ 0) = false := decide_eq_false (by omega)
  go_enter Tryd.func6, Tryd.ntmps6
  go_wp2_with fail
  refine (head_any _ HE.out).mono ?_
  rintro _ w1 ⟨rfl, hb1⟩
  have HB1 : Aside (Below w.heap.size w w1) := hb1
  have A1 : Aside (At w1 b off l) := HA.out.below hb1 hbw
  have hbw1 : b < w1.heap.size := Nat.lt_of_lt_of_le hbw hb1.size
  clear hb1
  go_wp2_with fail
  refine (split_any c l _ b off cap len _ HL.out (fun _ => rfl) A1.out hm (fun _ => hbw1)).mono ?_
  rintro _ w2 ⟨p', blk, rfl, hpp, hAt, hb2⟩
  rw [E1.out] at hpp hAt
  rw [E1.out, E2.out, partL_length, HL.out]
  rw [partL_length, HL.out] at hpp
  obtain ⟨e1, hblk, hblk2⟩ := hpp hl1
  subst e1
  have HB2 : Aside (Below w.heap.size w w2) := HB1.out.trans (hb2.mono HB1.out.size)
  have A2 : Aside (At w2 b off l) := A1.out.below hb2 hbw1
  have P2 : Aside (At w2 blk 0 (partL c W l (len - 1))) := hAt
  clear hb2 hAt HB1 A1 hpp E1 E2
  go_wp2_with fail
  refine (rwhole_any l _ b off cap len _ HL.out (fun _ => rfl) A2.out hm).mono ?_
  rw [← HW.out]
  rintro _ w3 ⟨rfl, rfl⟩
  go_wp2_with fail
  refine (KA.out _).mono ?_
  rintro _ w3 ⟨rfl, rfl⟩
  go_wp2
  go_loopg [9, 10] len (fun kx vs vi wr => ∃ (i : Nat) (sm : Int), vi = .int .i64 i ∧ vs = .int .i64 sm ∧ i ≤ len ∧ len - i ≤ kx ∧ -((i : Int) * 1000000000) ≤ sm ∧ sm ≤ (i : Int) * 1000000000 ∧ Hid (sm = ((partL c W l (len - 1)).take i).sum) ∧ Aside (∃ q, wr = w2.drewN q))
  case atStart => exact ⟨0, 0, rfl, rfl, by omega, by omega, by omega, by omega, (show _ = _ by simp), (⟨0, rfl⟩ : ∃ q, w2 = w2.drewN q)⟩
  case round =>
    obtain ⟨i, sm, rfl, rfl, hi, hkx, hs0, hs1, HSM, HQ⟩ := hrel
    by_cases hlt : i < len
    · have hltz : (i : Int) < (len : Int) := by omega
      have z1 : (0 : Int) ≤ (i : Int) := by omega
      have hil : i < l.length := by rw [HL.out]; exact hlt
      have hiP : i < (partL c W l (len - 1)).length := by rw [partL_length]; exact hil
      have fi := part_fair (n := len - 1) c W l i hil HLn.out HS.out f4 HO.out HC.out
      have wi := (wok_iff _).1 (List.all_eq_true.1 HO.out l[i] (List.getElem_mem hil))
      have ami := (amt_iff _).1 fi.amount
      obtain ⟨q0, hq0⟩ := HQ.out
      have ci : wr.cell? ⟨b, off + i, none⟩ = some (.int .i64 l[i]) := by rw [hq0]; exact A2.out i hil
      have di : wr.cell? ⟨blk, i, none⟩ = some (.int .i64 (gj c W l ((upL c W l (len - 1)).map (·.val)) i)) := by
        have := P2.out i hiP
        rw [partL_get, Nat.zero_add] at this
        rw [hq0]; exact this
      have HSM2 : Hid (sm + gj c W l ((upL c W l (len - 1)).map (·.val)) i = ((partL c W l (len - 1)).take (i + 1)).sum) := by
        show _ = _
        rw [take_sum _ i hiP, ← HSM.out, partL_get]
      obtain ⟨pi, hpi⟩ : ∃ pi, pi = gj c W l ((upL c W l (len - 1)).map (·.val)) i := ⟨_, rfl⟩
      obtain ⟨xi, hxi⟩ : ∃ xi, xi = l[i] := ⟨_, rfl⟩
      rw [← hpi] at di ami fi HSM2
      rw [← hxi] at ci fi wi
      have HPI : Hid (pi = gj c W l ((upL c W l (len - 1)).map (·.val)) i) := hpi
      have HXI : Hid (xi = l[i]) := hxi
      have KI : Aside (∀ w : World, Calls Tryd.prog 11 #[.int .i64 pi] w fun e w' => e = .returned (.bool true) ∧ w = w') := fun w => by rw [← fi.amount]; exact ramount_any pi w
      have fp := fi.pos
      have fn := fi.neg
      have fz := fi.none
      have fd := fi.near
      obtain ⟨pw, hpw⟩ : ∃ pw, pi * W = pw := ⟨_, rfl⟩
      obtain ⟨cx, hcx⟩ : ∃ cx, c * xi = cx := ⟨_, rfl⟩
      have hpwb : -100000000000000000 ≤ pw ∧ pw ≤ 100000000000000000 := by
        have h : (pi * W).natAbs ≤ 1000000000 * 64000000 := by rw [Int.natAbs_mul]; exact Nat.mul_le_mul (by omega) (by omega)
        omega
      have hcxb : -100000000000000000 ≤ cx ∧ cx ≤ 100000000000000000 := by
        have h : (c * xi).natAbs ≤ 1000000000 * 1000000 := by rw [Int.natAbs_mul]; exact Nat.mul_le_mul (by omega) (by omega)
        omega
      rw [hpw, hcx] at fd
      obtain ⟨df, hdf⟩ : ∃ df, pw - cx = df := ⟨_, rfl⟩
      rw [hdf] at fd
      have r1 : IntKind.i64.wrap pw = pw := by rw [IntKind.wrap_i64]; omega
      have r2 : IntKind.i64.wrap cx = cx := by rw [IntKind.wrap_i64]; omega
      have r3 : IntKind.i64.wrap df = df := by rw [IntKind.wrap_i64]; omega
      have d1 : decide (W ≤ df) = false := decide_eq_false (by omega)
      have d2 : decide (W ≤ -df) = false := decide_eq_false (by omega)
      have hdb : -64000000 ≤ df ∧ df ≤ 64000000 := by omega
      clear fi hpi hxi hq0 HSM fd
      have hx : (xi == 0) = true ∧ (pi != 0) = false ∨ (xi == 0) = false := by
        by_cases h : xi = 0
        · left; exact ⟨by simp [h], by simp [fz h]⟩
        · right; simp [h]
      have p1 : decide (pi < 0) = false := decide_eq_false (by have := fp (by omega); omega)
      have p2 : True := trivial
      clear p2
      clear fp fn fz
      rcases hx with ⟨x1, x2⟩ | x1
      all_goals
        go_wp2_with fail
        refine (KI.out _).mono ?_
        rintro _ wz ⟨rfl, rfl⟩
        go_wp2_with fail
        go_quiet (fail)
        have ciA : (wr.drewN nq).cell? ⟨b, off + i, none⟩ = some (.int .i64 xi) := ci
        have diA : (wr.drewN nq).cell? ⟨blk, i, none⟩ = some (.int .i64 pi) := di
        have HQA : Aside (∃ q, wr.drewN nq = w2.drewN q) := by obtain ⟨q, hq⟩ := HQ.out; exact ⟨q + nq, by rw [hq, World.drewN_drewN]⟩
        clear ci di HQ
        generalize wr.drewN nq = wA at ciA diA HQA ⊢
        clear nq
        go_wp2
        go_loopg [12] len (fun kx vk wr => ∃ k : Nat, vk = .int .i64 k ∧ k ≤ i ∧ i - k ≤ kx ∧ Aside (∃ q, wr = w2.drewN q))
        case atStart => exact ⟨0, rfl, by omega, by omega, HQA⟩
        case round =>
          clear HQA ciA diA
          obtain ⟨k, rfl, hk, hkx2, HQ⟩ := hrel
          obtain ⟨q0, hq0⟩ := HQ.out
          have ci : wr.cell? ⟨b, off + i, none⟩ = some (.int .i64 xi) := by rw [hq0, HXI.out]; exact A2.out i hil
          have di : wr.cell? ⟨blk, i, none⟩ = some (.int .i64 pi) := by
            have := P2.out i hiP
            rw [partL_get, Nat.zero_add] at this
            rw [hq0, HPI.out]; exact this
          by_cases hlt2 : k < i
          · have hltz2 : (k : Int) < (i : Int) := by omega
            have z2 : (0 : Int) ≤ (k : Int) := by omega
            have z3 : (k : Int) < (len : Int) := by omega
            have hkl : k < l.length := by omega
            have hkP : k < (partL c W l (len - 1)).length := by rw [partL_length]; exact hkl
            have fk := part_fair (n := len - 1) c W l k hkl HLn.out HS.out f4 HO.out HC.out
            have amk := (amt_iff _).1 fk.amount
            have o1 := part_order (n := len - 1) c W l i k hil hkl HLn.out HS.out f4 HO.out
            have o2 := part_order (n := len - 1) c W l k i hkl hil HLn.out HS.out f4 HO.out
            rw [← HPI.out, ← HXI.out] at o1 o2
            have ck : wr.cell? ⟨b, off + k, none⟩ = some (.int .i64 l[k]) := by rw [hq0]; exact A2.out k hkl
            have dk : wr.cell? ⟨blk, k, none⟩ = some (.int .i64 (gj c W l ((upL c W l (len - 1)).map (·.val)) k)) := by
              have := P2.out k hkP
              rw [partL_get, Nat.zero_add] at this
              rw [hq0]; exact this
            generalize gj c W l ((upL c W l (len - 1)).map (·.val)) k = pk at dk amk fk o1 o2
            generalize l[k] = xk at ck o1 o2 fk
            have hcase : (decide (xk < xi) = true ∧ decide (xi < xk) = false ∧ decide (ab pi < ab pk) = false) ∨ (decide (xk < xi) = false ∧ decide (xi < xk) = false) ∨ (decide (xk < xi) = false ∧ decide (xi < xk) = true ∧ decide (ab pk < ab pi) = false) := by
              rcases Int.lt_trichotomy xi xk with h | h | h
              · right; right; exact ⟨decide_eq_false (by omega), decide_eq_true h, decide_eq_false (by have := o2 h; omega)⟩
              · right; left; exact ⟨decide_eq_false (by omega), decide_eq_false (by omega)⟩
              · left; exact ⟨decide_eq_true h, decide_eq_false (by omega), decide_eq_false (by have := o1 h; omega)⟩
            clear fk hq0 o1 o2 hkl hkP
            rcases hcase with ⟨t1, t2, t3⟩ | ⟨t1, t2⟩ | ⟨t1, t2, t3⟩
            all_goals
              go_wp2_with fail
              go_quiet ((go_at_call 16; exact Calls.quiet_of_same (size_lawfn _ _ (by omega) (by omega))))
              have HQB : Aside (∃ q, wr.drewN nq = w2.drewN q) := by obtain ⟨q, hq⟩ := HQ.out; exact ⟨q + nq, by rw [hq, World.drewN_drewN]⟩
              clear ci di ck dk HQ
              generalize wr.drewN nq = wB at HQB ⊢
              clear nq
              go_wp2
              go_roundg (i - (k + 1))
              case measure => omega
              case rel => exact ⟨k + 1, by go_num, by omega, by omega, HQB⟩
          · have hltz2 : ¬ (k : Int) < (i : Int) := by omega
            clear hq0
            go_wp2
            go_roundg (len - (i + 1))
            case measure => omega
            case rel => exact ⟨i + 1, sm + pi, by go_num, rfl, by omega, by omega, by omega, by omega, HSM2, HQ⟩
    · have hltz : ¬ (i : Int) < (len : Int) := by omega
      have hend : (sm == c) = true := by
        have h := HSM.out
        rw [List.take_of_length_le (by rw [partL_length, HL.out]; omega), hsum0.out] at h
        simp [h]
      have HB3 : Aside (Below w.heap.size w wr) := by obtain ⟨q, hq⟩ := HQ.out; rw [hq]; exact below_drewN HB2.out q
      go_wp2
      go_ret
      exact ⟨rfl, HB3.out⟩
end Go.Proofs.YtamccmeibnihpaaDoor
