/-
  Contracts of the reference's Same, Shift.
-/
import Derived.Test.YtomcngnfdflkkaaSWalks4
import Derived.Laws.OwnMore
import Derived.OwnWalk
import Derived.Deep.DeepAppendWide
namespace Go.Proofs.Ytomcngnfdflkkaa
open Go.RowKit Spn Go.Sort

theorem ne_at {l m : List (Int × Int)} {k : Nat} (hl : k < l.length) (hm : k < m.length) (h : l[k] ≠ m[k]) : decide (l = m) = false := decide_eq_false fun e => by subst e; exact h rfl
theorem eq_all {l m : List (Int × Int)} (hl : l.length = m.length) (h : l.take l.length = m.take l.length) : decide (l = m) = true := decide_eq_true (by
  rw [List.take_length, hl, List.take_length] at h; exact h)
theorem take_eq {l m : List (Int × Int)} {k : Nat} (hl : k < l.length) (hm : k < m.length) (h : l.take k = m.take k) (e : l[k] = m[k]) : l.take (k + 1) = m.take (k + 1) := by
  rw [List.take_succ_eq_append_getElem hl, List.take_succ_eq_append_getElem hm, h, e]

set_option maxHeartbeats 1000000 in
set_option maxRecDepth 100000 in
theorem same_any (l m : List (Int × Int)) (p p' : Option Addr) (b off cap len b' off' cap' len' : Nat) (w : World) (hS : Sl w p b off len l) (hS' : Sl w p' b' off' len' m) :
    Calls Try.prog 14 #[.slice p len cap, .slice p' len' cap'] w fun e w' => e = .returned (.bool (decide (l = m))) ∧ Below w.heap.size w w' := by
  have HS := Lib.hid hS
  have HS' := Lib.hid hS'
  have hm := hS.2.2.2.2.1
  have hm' := hS'.2.2.2.2.1
  have HL := Lib.hid hS.1
  have HL' := Lib.hid hS'.1
  clear hS hS'
  by_cases hll : len = len'
  · subst hll
    have hne : ((len : Int) != (len : Int)) = false := by simp
    go_enter Try.func14, Try.ntmps14
    go_wp2_with fail
    go_loopg [5] len (fun g s5 wr => ∃ (k : Nat), s5 = .int .i64 k ∧ k ≤ len ∧ len - k ≤ g ∧ Hid (l.take k = m.take k) ∧ Hid (RowKit.Below w.heap.size w wr))
    case atStart => exact ⟨0, rfl, by omega, by omega, rfl, Below.refl _ _⟩
    case round =>
      obtain ⟨k, rfl, hk, hkg, HT, HB⟩ := hrel
      by_cases hlt : k < len
      · have hltz : (k : Int) < (len : Int) := by omega
        have hp1 := HS.out.2.1 (by omega)
        have hp2 := HS'.out.2.1 (by omega)
        have hkl : k < l.length := by rw [HL.out]; exact hlt
        have hkm : k < m.length := by rw [HL'.out]; exact hlt
        obtain ⟨x, hx⟩ : ∃ x, x = l[k].1 := ⟨_, rfl⟩
        obtain ⟨y, hy⟩ : ∃ x, x = l[k].2 := ⟨_, rfl⟩
        obtain ⟨u, hu⟩ : ∃ x, x = m[k].1 := ⟨_, rfl⟩
        obtain ⟨v, hv⟩ : ∃ x, x = m[k].2 := ⟨_, rfl⟩
        have HS1 := Lib.hid (HS.out.below HB.out)
        have HS2 := Lib.hid (HS'.out.below HB.out)
        have c1 := (HS1.out.2.2.1 k hkl).1
        have c2 := (HS1.out.2.2.1 k hkl).2
        have c3 := (HS2.out.2.2.1 k hkm).1
        have c4 := (HS2.out.2.2.1 k hkm).2
        rw [← hx] at c1
        rw [← hy] at c2
        rw [← hu] at c3
        rw [← hv] at c4
        have hk2 : l[k] = (x, y) := Prod.ext hx.symm hy.symm
        have hk3 : m[k] = (u, v) := Prod.ext hu.symm hv.symm
        clear hx hy hu hv
        subst hp1 hp2
        by_cases hxu : x = u
        · subst hxu
          by_cases hyv : y = v
          · subst hyv
            have HTn : Hid (l.take (k + 1) = m.take (k + 1)) := take_eq hkl hkm HT.out (by rw [hk2, hk3])
            clear hk2 hk3
            go_wp2_with fail
            go_quiet (fail)
            go_wp2
            go_roundg (len - (k + 1))
            case measure => omega
            case rel => exact ⟨k + 1, by go_num, by omega, by omega, HTn, below_drewN HB.out _⟩
          · have E : Hid (false = decide (l = m)) := (ne_at hkl hkm (by rw [hk2, hk3]; intro e; cases e; exact hyv rfl)).symm
            have hn : (y == v) = false := by simpa using hyv
            clear hk2 hk3
            go_wp2_with fail
            go_quiet (fail)
            go_wp2
            go_ret
            exact ⟨ret_bool E.out, below_drewN HB.out _⟩
        · have E : Hid (false = decide (l = m)) := (ne_at hkl hkm (by rw [hk2, hk3]; intro e; cases e; exact hxu rfl)).symm
          have hn : (x == u) = false := by simpa using hxu
          clear hk2 hk3
          go_wp2_with fail
          go_quiet (fail)
          go_wp2
          go_ret
          exact ⟨ret_bool E.out, below_drewN HB.out _⟩
      · have hltz : ¬ (k : Int) < (len : Int) := by omega
        have E : Hid (true = decide (l = m)) := (eq_all (by rw [HL.out, HL'.out]) (by rw [HL.out, show len = k by omega]; exact HT.out)).symm
        go_wp2
        go_ret
        exact ⟨ret_bool E.out, HB.out⟩
  · have hne : ((len : Int) != (len' : Int)) = true := by simp; omega
    have E : Hid (false = decide (l = m)) := (decide_eq_false fun e => by subst e; have := HL.out; have := HL'.out; omega).symm
    go_enter Try.func14, Try.ntmps14
    go_wp2
    go_ret
    exact ⟨ret_bool E.out, Below.refl _ _⟩
end Go.Proofs.Ytomcngnfdflkkaa
