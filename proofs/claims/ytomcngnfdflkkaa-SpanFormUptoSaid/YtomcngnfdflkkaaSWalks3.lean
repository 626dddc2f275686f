/-
  Contracts of Count, Has and of the reference's Count, Has, Same.
-/
import Derived.Test.YtomcngnfdflkkaaSWalks2
namespace Go.Proofs.Ytomcngnfdflkkaa
open Go.RowKit Spn Go.Sort

theorem valid_b (l : List (Int × Int)) (p : Option Addr) (b off cap len : Nat) (c : Bool) (h : vl l = c) (w : World) (hS : Sl w p b off len l) :
    Calls Try.prog 10 #[.slice p len cap] w fun e w' => e = .returned (.bool c) ∧ Below w.heap.size w w' := by
  rw [← h]; exact valid_any l p b off cap len w hS
theorem rValid_b (l : List (Int × Int)) (p : Option Addr) (b off cap len : Nat) (c : Bool) (h : vl l = c) (w : World) (hS : Sl w p b off len l) :
    Calls Try.prog 11 #[.slice p len cap] w fun e w' => e = .returned (.bool c) ∧ Below w.heap.size w w' := by
  rw [← h]; exact rValid_any l p b off cap len w hS

def ctV (l : List (Int × Int)) : Int := if vl l then tot l else 0
def ctE (l : List (Int × Int)) : Int := if vl l then 0 else 1
theorem ct_bad {l : List (Int × Int)} (h : vl l = false) : ctV l = 0 ∧ ctE l = 1 := by unfold ctV ctE; rw [h]; exact ⟨rfl, rfl⟩
theorem ct_ok {l : List (Int × Int)} (h : vl l = true) : ctV l = tot l ∧ ctE l = 0 := by unfold ctV ctE; rw [h]; exact ⟨rfl, rfl⟩
theorem ret_2 {a b c d : Int} (h : a = c) (h' : b = d) : Ending.returned (.tuple #[.int .i64 a, .int .i64 b]) = .returned (.tuple #[.int .i64 c, .int .i64 d]) := by rw [h, h']

set_option maxHeartbeats 1000000 in
set_option maxRecDepth 100000 in
theorem Count_any (l : List (Int × Int)) (p : Option Addr) (b off cap len : Nat) (w : World) (hS : Sl w p b off len l) :
    Calls Try.prog 23 #[.slice p len cap] w fun e w' => e = .returned (.tuple #[.int .i64 (ctV l), .int .i64 (ctE l)]) ∧ Below w.heap.size w w' := by
  have HS := Lib.hid hS
  have hm := hS.2.2.2.2.1
  have HL := Lib.hid hS.1
  clear hS
  cases hv : vl l with
  | false =>
    have E := Lib.hid (ct_bad hv)
    have KV := Lib.hid (valid_b l p b off cap len false hv)
    clear hv
    go_enter Try.func23, Try.ntmps23
    go_wp2_with fail
    refine (KV.out _ HS.out).mono ?_
    rintro _ w1 ⟨rfl, hb⟩
    have HB := Lib.hid hb
    clear hb
    go_wp2
    go_ret2
    exact ⟨ret_2 E.out.1.symm E.out.2.symm, HB.out⟩
  | true =>
    have E := Lib.hid (ct_ok hv)
    have KV := Lib.hid (valid_b l p b off cap len true hv)
    have HV := Lib.hid (vl_iff.1 hv)
    clear hv
    go_enter Try.func23, Try.ntmps23
    go_wp2_with fail
    refine (KV.out _ HS.out).mono ?_
    rintro _ w1 ⟨rfl, hb⟩
    have HB := Lib.hid hb
    have HS1 := Lib.hid (HS.out.below hb)
    have HS0 := HS
    clear hb HS
    go_wp2_with fail
    go_loopg [4, 12] len (fun g s4 s12 wr => ∃ (k : Nat) (t : Int), s12 = .int .i64 k ∧ s4 = .int .i64 t ∧ k ≤ len ∧ len - k ≤ g ∧ 0 ≤ t ∧ t ≤ 36525 * k ∧ Hid (t = tot (l.take k)) ∧ Hid (RowKit.Below w.heap.size w wr))
    case atStart => exact ⟨0, 0, rfl, rfl, by omega, by omega, by omega, by omega, rfl, HB.out⟩
    case round =>
      obtain ⟨k, t, rfl, rfl, hk, hkg, t0, t1, HT, HBr⟩ := hrel
      by_cases hlt : k < len
      · have hltz : (k : Int) < (len : Int) := by omega
        have hp1 := HS1.out.2.1 (by omega)
        have hkl : k < l.length := by rw [HL.out]; exact hlt
        have hlen : len ≤ 1000 := by have := HV.out.1; have := HL.out; omega
        have HS2 := Lib.hid (HS0.out.below HBr.out)
        obtain ⟨x, hx⟩ : ∃ x, x = l[k].1 := ⟨_, rfl⟩
        obtain ⟨y, hy⟩ : ∃ x, x = l[k].2 := ⟨_, rfl⟩
        have c1 := (HS2.out.2.2.1 k hkl).1
        have c2 := (HS2.out.2.2.1 k hkl).2
        have hst := (st_iff _).1 (HV.out.2.1 _ (List.getElem_mem hkl))
        rw [← hx] at c1 hst
        rw [← hy] at c2 hst
        have HTn : Hid (t + (y - x) = tot (l.take (k + 1))) := by show _ = _; rw [tot_take hkl, ← HT.out, hx, hy]
        obtain ⟨x0, x1, x2⟩ := hst
        clear hx hy
        subst hp1
        go_wp2
        go_roundg (len - (k + 1))
        case measure => omega
        case rel => exact ⟨k + 1, t + (y - x), by go_num, rfl, by omega, by omega, by omega, by omega, HTn, HBr.out.alloc HBr.out.size _⟩
      · have hltz : ¬ (k : Int) < (len : Int) := by omega
        have E2 : Hid (t = ctV l) := by show _ = _; rw [E.out.1, HT.out, List.take_of_length_le (by have := HL.out; omega)]
        go_wp2
        go_ret2
        exact ⟨ret_2 E2.out E.out.2.symm, HBr.out⟩

set_option maxHeartbeats 1000000 in
set_option maxRecDepth 100000 in
theorem rCount_any (l : List (Int × Int)) (p : Option Addr) (b off cap len : Nat) (w : World) (hS : Sl w p b off len l) :
    Calls Try.prog 24 #[.slice p len cap] w fun e w' => e = .returned (.tuple #[.int .i64 (ctV l), .int .i64 (ctE l)]) ∧ Below w.heap.size w w' := by
  have HS := Lib.hid hS
  have hm := hS.2.2.2.2.1
  have HL := Lib.hid hS.1
  clear hS
  cases hv : vl l with
  | false =>
    have E := Lib.hid (ct_bad hv)
    have KV := Lib.hid (rValid_b l p b off cap len false hv)
    clear hv
    go_enter Try.func24, Try.ntmps24
    go_wp2_with fail
    refine (KV.out _ HS.out).mono ?_
    rintro _ w1 ⟨rfl, hb⟩
    have HB := Lib.hid hb
    clear hb
    go_wp2
    go_ret2
    exact ⟨ret_2 E.out.1.symm E.out.2.symm, HB.out⟩
  | true =>
    have E := Lib.hid (ct_ok hv)
    have KV := Lib.hid (rValid_b l p b off cap len true hv)
    have HV := Lib.hid (vl_iff.1 hv)
    clear hv
    go_enter Try.func24, Try.ntmps24
    go_wp2_with fail
    refine (KV.out _ HS.out).mono ?_
    rintro _ w1 ⟨rfl, hb⟩
    have HB := Lib.hid hb
    clear hb
    go_wp2_with fail
    go_loopg [4, 5] len (fun g s4 s5 wr => ∃ (k : Nat) (t : Int), s5 = .int .i64 k ∧ s4 = .int .i64 t ∧ k ≤ len ∧ len - k ≤ g ∧ 0 ≤ t ∧ t ≤ 36525 * k ∧ Hid (t = tot (l.take k)) ∧ Hid (RowKit.Below w.heap.size w wr))
    case atStart => exact ⟨0, 0, rfl, rfl, by omega, by omega, by omega, by omega, rfl, HB.out⟩
    case round =>
      obtain ⟨k, t, rfl, rfl, hk, hkg, t0, t1, HT, HBr⟩ := hrel
      by_cases hlt : k < len
      · have hltz : (k : Int) < (len : Int) := by omega
        have hp1 := HS.out.2.1 (by omega)
        have hkl : k < l.length := by rw [HL.out]; exact hlt
        have hlen : len ≤ 1000 := by have := HV.out.1; have := HL.out; omega
        have HS2 := Lib.hid (HS.out.below HBr.out)
        obtain ⟨x, hx⟩ : ∃ x, x = l[k].1 := ⟨_, rfl⟩
        obtain ⟨y, hy⟩ : ∃ x, x = l[k].2 := ⟨_, rfl⟩
        have c1 := (HS2.out.2.2.1 k hkl).1
        have c2 := (HS2.out.2.2.1 k hkl).2
        rw [← hx] at c1
        rw [← hy] at c2
        have hk2 : l[k] = (x, y) := Prod.ext hx.symm hy.symm
        clear hx hy
        have hst := (st_iff _).1 (HV.out.2.1 _ (List.getElem_mem hkl))
        rw [hk2] at hst
        have HTn : Hid (t + y - x = tot (l.take (k + 1))) := by show _ = _; rw [tot_take hkl, ← HT.out, hk2]; show t + y - x = t + (y - x); omega
        obtain ⟨x0, x1, x2⟩ := hst
        clear hk2
        subst hp1
        go_wp2_with fail
        go_quiet (fail)
        go_wp2
        go_roundg (len - (k + 1))
        case measure => omega
        case rel => exact ⟨k + 1, t + y - x, by go_num, rfl, by omega, by omega, by omega, by omega, HTn, below_drewN HBr.out _⟩
      · have hltz : ¬ (k : Int) < (len : Int) := by omega
        have E2 : Hid (t = ctV l) := by show _ = _; rw [E.out.1, HT.out, List.take_of_length_le (by have := HL.out; omega)]
        go_wp2
        go_ret2
        exact ⟨ret_2 E2.out E.out.2.symm, HBr.out⟩

def hsV (l : List (Int × Int)) (d : Int) : Bool := vl l && cov l d
def hsE (l : List (Int × Int)) : Int := if vl l then 0 else 1
theorem hs_bad {l : List (Int × Int)} (d : Int) (h : vl l = false) : hsV l d = false ∧ hsE l = 1 := by unfold hsV hsE; rw [h]; exact ⟨rfl, rfl⟩
theorem hs_ok {l : List (Int × Int)} (d : Int) (h : vl l = true) : hsV l d = cov l d ∧ hsE l = 0 := by unfold hsV hsE; rw [h]; exact ⟨rfl, rfl⟩
theorem ret_bi {a c : Bool} {b d : Int} (h : a = c) (h' : b = d) : Ending.returned (.tuple #[.bool a, .int .i64 b]) = .returned (.tuple #[.bool c, .int .i64 d]) := by rw [h, h']
theorem cov_here {l : List (Int × Int)} {k : Nat} (hk : k < l.length) {x y d : Int} (e : l[k] = (x, y)) (h1 : x ≤ d) (h2 : d < y) : cov l d = true := cov_iff.2 ⟨_, List.getElem_mem hk, by rw [e]; exact h1, by rw [e]; exact h2⟩
theorem cov_past {l : List (Int × Int)} {k : Nat} (hk : k < l.length) {x y d : Int} (e : l[k] = (x, y)) (h : cov (l.take k) d = false) (h2 : ¬ (x ≤ d ∧ d < y)) : cov (l.take (k + 1)) d = false := by
  rw [List.take_succ_eq_append_getElem hk, cov_append, h, e]
  exact cov_not.2 fun s hs => by rw [List.mem_singleton.1 hs]; exact h2

set_option maxHeartbeats 1000000 in
set_option maxRecDepth 100000 in
theorem rHas_any (l : List (Int × Int)) (d : Int) (p : Option Addr) (b off cap len : Nat) (w : World) (hS : Sl w p b off len l) :
    Calls Try.prog 22 #[.slice p len cap, .int .i64 d] w fun e w' => e = .returned (.tuple #[.bool (hsV l d), .int .i64 (hsE l)]) ∧ Below w.heap.size w w' := by
  have HS := Lib.hid hS
  have hm := hS.2.2.2.2.1
  have HL := Lib.hid hS.1
  clear hS
  cases hv : vl l with
  | false =>
    have E := Lib.hid (hs_bad d hv)
    have KV := Lib.hid (rValid_b l p b off cap len false hv)
    clear hv
    go_enter Try.func22, Try.ntmps22
    go_wp2_with fail
    refine (KV.out _ HS.out).mono ?_
    rintro _ w1 ⟨rfl, hb⟩
    have HB := Lib.hid hb
    clear hb
    go_wp2
    go_ret2
    exact ⟨ret_bi E.out.1.symm E.out.2.symm, HB.out⟩
  | true =>
    have E := Lib.hid (hs_ok d hv)
    have KV := Lib.hid (rValid_b l p b off cap len true hv)
    clear hv
    go_enter Try.func22, Try.ntmps22
    go_wp2_with fail
    refine (KV.out _ HS.out).mono ?_
    rintro _ w1 ⟨rfl, hb⟩
    have HB := Lib.hid hb
    have HS2 := Lib.hid (HS.out.below hb)
    clear hb HS
    go_wp2_with fail
    go_loop [6] (fun s6 => ∃ (k : Nat), s6 = .int .i64 k ∧ k ≤ len ∧ Hid (cov (l.take k) d = false)) (fun i => len - (intOf i).toNat)
    case atStart => exact ⟨0, rfl, by omega, rfl⟩
    case round =>
      obtain ⟨k, rfl, hk, HT⟩ := hrel
      by_cases hlt : k < len
      · have hltz : (k : Int) < (len : Int) := by omega
        have hp1 := HS2.out.2.1 (by omega)
        have hkl : k < l.length := by rw [HL.out]; exact hlt
        obtain ⟨x, hx⟩ : ∃ x, x = l[k].1 := ⟨_, rfl⟩
        obtain ⟨y, hy⟩ : ∃ x, x = l[k].2 := ⟨_, rfl⟩
        have c1 := (HS2.out.2.2.1 k hkl).1
        have c2 := (HS2.out.2.2.1 k hkl).2
        rw [← hx] at c1
        rw [← hy] at c2
        have hk2 : l[k] = (x, y) := Prod.ext hx.symm hy.symm
        clear hx hy
        subst hp1
        by_cases h1 : x ≤ d
        · by_cases h2 : d < y
          · have E2 : Hid (true = hsV l d) := by show _ = _; rw [E.out.1, cov_here hkl hk2 h1 h2]
            clear hk2
            go_wp2
            go_ret2
            exact ⟨ret_bi E2.out E.out.2.symm, HB.out⟩
          · have HTn : Hid (cov (l.take (k + 1)) d = false) := cov_past hkl hk2 HT.out (by omega)
            have h2' : decide (d < y) = false := decide_eq_false h2
            clear hk2
            go_wp2
            go_round
            case rel => exact ⟨k + 1, by go_num, by omega, HTn⟩
            case measure => simp [intOf]; omega
        · have HTn : Hid (cov (l.take (k + 1)) d = false) := cov_past hkl hk2 HT.out (by omega)
          have h1' : decide (x ≤ d) = false := decide_eq_false h1
          clear hk2
          go_wp2
          go_round
          case rel => exact ⟨k + 1, by go_num, by omega, HTn⟩
          case measure => simp [intOf]; omega
      · have hltz : ¬ (k : Int) < (len : Int) := by omega
        have E2 : Hid (false = hsV l d) := by show _ = _; rw [E.out.1, ← HT.out, List.take_of_length_le (by have := HL.out; omega)]
        go_wp2
        go_ret2
        exact ⟨ret_bi E2.out E.out.2.symm, HB.out⟩
end Go.Proofs.Ytomcngnfdflkkaa
