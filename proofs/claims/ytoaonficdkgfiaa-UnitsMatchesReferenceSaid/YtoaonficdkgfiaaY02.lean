/- Texts on units: UName Math URat -/
import Derived.Test.YtoaonficdkgfiaaY01
import Derived.WalkKit
import Derived.WalkSpells
import Derived.WalkLawsBesides
import Derived.Lib.Hide
import Derived.Deep.LoopGhost
import Derived.Deep.QuietTactic
import Derived.BigQuiet
namespace Go.Proofs.Ytoaonficdkgfiaa
open Go.RowKit Un

theorem uisLetter_any (c : UInt8) (w : World) : Calls Try.prog 80 #[.int .u8 c.toNat] w fun e w' => e = .returned (.bool (letter c)) ∧ w' = w := by
 unfold letter
 by_cases h1 : 97 ≤ c.toNat
 ·have e1 : (97 : Int) ≤ (c.toNat : Int) := by omega
  by_cases h2 : c.toNat ≤ 122
  ·have e2 : (c.toNat : Int) ≤ 122 := by omega
   go_enter Try.func80, Try.ntmps80
   go_wp2_with fail
   go_ret
   exact ⟨ret_bool (by first | (simp; done) | (simp; omega)), rfl⟩
  ·have e2 : ¬ (c.toNat : Int) ≤ 122 := by omega
   go_enter Try.func80, Try.ntmps80
   go_wp2_with fail
   go_ret
   exact ⟨ret_bool (by first | (simp; done) | (simp; omega)), rfl⟩
 ·have e1 : ¬ (97 : Int) ≤ (c.toNat : Int) := by omega
  go_enter Try.func80, Try.ntmps80
  go_wp2_with fail
  go_ret
  exact ⟨ret_bool (by first | (simp; done) | (simp; omega)), rfl⟩
theorem uisDigit_any (c : UInt8) (w : World) : Calls Try.prog 82 #[.int .u8 c.toNat] w fun e w' => e = .returned (.bool (digit c)) ∧ w' = w := by
 unfold digit
 by_cases h1 : 48 ≤ c.toNat
 ·have e1 : (48 : Int) ≤ (c.toNat : Int) := by omega
  by_cases h2 : c.toNat ≤ 57
  ·have e2 : (c.toNat : Int) ≤ 57 := by omega
   go_enter Try.func82, Try.ntmps82
   go_wp2_with fail
   go_ret
   exact ⟨ret_bool (by first | (simp; done) | (simp; omega)), rfl⟩
  ·have e2 : ¬ (c.toNat : Int) ≤ 57 := by omega
   go_enter Try.func82, Try.ntmps82
   go_wp2_with fail
   go_ret
   exact ⟨ret_bool (by first | (simp; done) | (simp; omega)), rfl⟩
 ·have e1 : ¬ (48 : Int) ≤ (c.toNat : Int) := by omega
  go_enter Try.func82, Try.ntmps82
  go_wp2_with fail
  go_ret
  exact ⟨ret_bool (by first | (simp; done) | (simp; omega)), rfl⟩
set_option maxRecDepth 100000 in
set_option maxHeartbeats 4000000 in
theorem ureserved_any (x : List UInt8) (w : World) : Calls Try.prog 81 #[.string (bs x)] w fun e w' => e = .returned (.bool (reserved.contains x)) ∧ w' = w := by
 go_enter Try.func81, Try.ntmps81
 go_wp2_with fail
 all_goals
  go_ret
  refine ⟨ret_bool ?_, rfl⟩
  simp_all only [bs_list, beq_iff_eq, beq_eq_false_iff_ne, ne_eq]
  first | rfl | simp_all [reserved]
/-- What walks use of a string: its bytes as a list. -/
structure StX (s : ByteArray) (x : List UInt8) : Prop where
 ls : s.toList = x
 sz : s.size = x.length
 at_ : ∀ (i : Nat) (h : i < s.size), s[i] = x.getD i 0
theorem StX.mk' (x : List UInt8) : StX (bs x) x := ⟨bs_list x, bs_size x, fun i h => by
 have h' : i < x.length := by rw [← bs_size x]; exact h
 have := ByteArray.getElem_eq_getElem_data (a := bs x) (i := i) (h := h)
 rw [List.getD_eq_getElem?_getD, List.getElem?_eq_getElem h', this]
 simp [bs]⟩
theorem letter_in {c : UInt8} (h : letter c = true) : inName c = true := by unfold inName; rw [h]; rfl
set_option maxRecDepth 100000 in
set_option maxHeartbeats 4000000 in
theorem uisName_any (x : List UInt8) (w : World) : Calls Try.prog 58 #[.string (bs x)] w fun e w' => e = .returned (.bool (isName x)) ∧ w' = w := by
 obtain ⟨R, hR⟩ : ∃ R, R = isName x := ⟨_, rfl⟩
 obtain ⟨s, hs⟩ : ∃ s, s = bs x := ⟨_, rfl⟩
 have hX : StX s x := by rw [hs]; exact StX.mk' x
 have KR : Hid (∀ w, Calls Try.prog 81 #[.string s] w fun e w' => e = .returned (.bool (reserved.contains x)) ∧ w' = w) := by rw [hs]; exact fun w => ureserved_any x w
 rw [← hR, ← hs]
 obtain ⟨ls, sz, at_⟩ := hX
 have HA := Lib.hid at_
 clear hs at_
 have KL := Lib.hid uisLetter_any
 have KD := Lib.hid uisDigit_any
 have HR := Lib.hid hR
 clear hR
 cases x with
 | nil =>
  have e1 : (s.toList == []) = true := by rw [ls]; rfl
  obtain rfl : R = false := HR.out
  clear ls
  go_enter Try.func58, Try.ntmps58
  go_wp2_with fail
  go_ret
  exact ⟨rfl, rfl⟩
 | cons c r =>
  have e1 : (s.toList == []) = false := by rw [ls]; rfl
  have hpos : 0 < s.size := by rw [sz]; simp
  by_cases hl : r.length + 1 ≤ 16
  ·have e2 : ¬ (16 : Int) < (s.size : Int) := by rw [sz]; simp; omega
   cases h3 : letter c with
   | false =>
    have HRF : Hid (R = false) := by show _ = _; rw [HR.out]; simp [isName, h3]
    have hc : s[0] = c := HA.out 0 hpos
    clear ls
    go_enter Try.func58, Try.ntmps58
    go_wp2_with fail
    refine (KL.out c _).mono ?_
    rintro _ w1 ⟨rfl, hw⟩
    obtain rfl := hw.symm
    rw [h3]
    go_wp2_with fail
    go_ret
    exact ⟨ret_bool HRF.out.symm, rfl⟩
   | true =>
    cases h4 : reserved.contains (c :: r) with
    | true =>
     have HRF : Hid (R = false) := by show _ = _; rw [HR.out]; simp only [isName, h4, Bool.not_true, Bool.and_false]
     have hc : s[0] = c := HA.out 0 hpos
     clear ls
     go_enter Try.func58, Try.ntmps58
     go_wp2_with fail
     refine (KL.out c _).mono ?_
     rintro _ w1 ⟨rfl, hw⟩
     obtain rfl := hw.symm
     rw [h3]
     go_wp2_with fail
     refine (KR.out _).mono ?_
     rintro _ w1 ⟨rfl, hw⟩
     obtain rfl := hw.symm
     rw [h4]
     go_wp2_with fail
     go_ret
     exact ⟨ret_bool HRF.out.symm, rfl⟩
    | false =>
     have HRF : Hid (R = (c :: r).all inName) := by
      show _ = _
      rw [HR.out]
      simp only [isName, h3, h4, decide_eq_true hl, Bool.not_false, Bool.and_true, Bool.true_and, List.all_cons, letter_in h3]
     have hc : s[0] = c := HA.out 0 hpos
     have hs17 : s.size ≤ 16 := by rw [sz]; simpa using hl
     obtain ⟨n, hn⟩ : ∃ n, s.size = n := ⟨_, rfl⟩
     have HXL : Hid ((c :: r).length = n) := by show _ = _; rw [← hn, sz]
     rw [hn] at hs17 hpos e2
     have HN := Lib.hid hn
     clear ls HR sz
     generalize c :: r = x at *
     go_enter Try.func58, Try.ntmps58
     go_wp2_with fail
     refine (KL.out c _).mono ?_
     rintro _ w1 ⟨rfl, hw⟩
     obtain rfl := hw.symm
     rw [h3]
     go_wp2_with fail
     refine (KR.out _).mono ?_
     rintro _ w1 ⟨rfl, hw⟩
     obtain rfl := hw.symm
     rw [h4]
     go_wp2_with fail
     clear hc h3 h4 KR hpos e1 e2 hl hn
     go_loopg [24] n (fun g s24 wr => ∃ k : Nat, s24 = .int .i64 (k : Nat) ∧ k ≤ n ∧ n - k ≤ g ∧ Hid (∀ i, i < k → inName (x.getD i 0) = true) ∧ wr = w)
     case atStart => exact ⟨0, rfl, by omega, by omega, fun i h => absurd h (Nat.not_lt_zero _), rfl⟩
     case round =>
      obtain ⟨k, rfl, hk, hg, HI, hw⟩ := hrel
      subst hw
      by_cases hkn : k < n
      ·have hz : (k : Int) < (n : Int) := by omega
       have hks : k < s.size := by rw [HN.out]; exact hkn
       have hk1 : IntKind.i64.wrap ((k : Int) + 1) = ((k + 1 : Nat) : Int) := by rw [IntWalk.i64_in _ (by omega)]; rfl
       have hb : s[k] = x.getD k 0 := HA.out k hks
       obtain ⟨ch, hch⟩ : ∃ ch, ch = x.getD k 0 := ⟨_, rfl⟩
       rw [← hch] at hb
       have HCH := Lib.hid hch
       clear hch
       cases hL : letter ch with
       | true =>
        go_wp2_with fail
        refine (KL.out ch _).mono ?_
        rintro _ w1 ⟨rfl, hw⟩
        obtain rfl := hw.symm
        rw [hL]
        go_wp2_with fail
        go_roundg (n - (k + 1))
        case measure => omega
        case rel => exact ⟨k + 1, rfl, by omega, Nat.le_refl _, (fun i hi => by
         by_cases e : i = k
         ·rw [e, ← HCH.out]; exact letter_in hL
         ·exact HI.out i (by omega)), rfl⟩
       | false =>
        cases hD : digit ch with
        | true =>
         go_wp2_with fail
         refine (KL.out ch _).mono ?_
         rintro _ w1 ⟨rfl, hw⟩
         obtain rfl := hw.symm
         rw [hL]
         go_wp2_with fail
         refine (KD.out ch _).mono ?_
         rintro _ w1 ⟨rfl, hw⟩
         obtain rfl := hw.symm
         rw [hD]
         go_wp2_with fail
         go_roundg (n - (k + 1))
         case measure => omega
         case rel => exact ⟨k + 1, rfl, by omega, Nat.le_refl _, (fun i hi => by
          by_cases e : i = k
          ·rw [e, ← HCH.out]; unfold inName; rw [hL, hD]; rfl
          ·exact HI.out i (by omega)), rfl⟩
        | false =>
         by_cases h95 : ch = 95
         ·subst h95
          go_wp2_with fail
          refine (KL.out 95 _).mono ?_
          rintro _ w1 ⟨rfl, hw⟩
          obtain rfl := hw.symm
          rw [hL]
          go_wp2_with fail
          refine (KD.out 95 _).mono ?_
          rintro _ w1 ⟨rfl, hw⟩
          obtain rfl := hw.symm
          rw [hD]
          go_wp2_with fail
          go_roundg (n - (k + 1))
          case measure => omega
          case rel => exact ⟨k + 1, rfl, by omega, Nat.le_refl _, (fun i hi => by
           by_cases e : i = k
           ·rw [e, ← HCH.out]; rfl
           ·exact HI.out i (by omega)), rfl⟩
         ·have e95 : ((ch.toNat : Int) != 95) = true := by
           have : ch.toNat ≠ 95 := fun e => h95 (UInt8.toNat_inj.1 e)
           simp; omega
          have HRR : Hid (R = false) := by
           show _ = _
           rw [HRF.out, List.all_eq_false]
           refine ⟨ch, ?_, ?_⟩
           ·rw [HCH.out, List.getD_eq_getElem?_getD, List.getElem?_eq_getElem (by rw [HXL.out]; omega)]
            exact List.getElem_mem _
           ·unfold inName
            rw [hL, hD]
            simpa using h95
          go_wp2_with fail
          refine (KL.out ch _).mono ?_
          rintro _ w1 ⟨rfl, hw⟩
          obtain rfl := hw.symm
          rw [hL]
          go_wp2_with fail
          refine (KD.out ch _).mono ?_
          rintro _ w1 ⟨rfl, hw⟩
          obtain rfl := hw.symm
          rw [hD]
          go_wp2_with fail
          go_ret
          exact ⟨ret_bool HRR.out.symm, rfl⟩
      ·have hz : ¬ (k : Int) < (n : Int) := by omega
       have HRT : Hid (R = true) := by
        show _ = _
        rw [HRF.out, List.all_eq_true]
        intro y hy
        obtain ⟨i, hi, rfl⟩ := List.getElem_of_mem hy
        have := HI.out i (by have := HXL.out; omega)
        rwa [List.getD_eq_getElem?_getD, List.getElem?_eq_getElem hi] at this
       go_wp2_with fail
       go_ret
       exact ⟨ret_bool HRT.out.symm, rfl⟩
  ·have e2 : (16 : Int) < (s.size : Int) := by rw [sz]; simp; omega
   have HRF : Hid (R = false) := by show _ = _; rw [HR.out]; simp only [isName, decide_eq_false hl, Bool.false_and]
   clear ls
   go_enter Try.func58, Try.ntmps58
   go_wp2_with fail
   go_ret
   exact ⟨ret_bool HRF.out.symm, rfl⟩
end Go.Proofs.Ytoaonficdkgfiaa
namespace Go.Proofs.Ytoaonficdkgfiaa
namespace Q

/-- What is in lowest terms and within the limits. -/
def Val (n d : Int) : Prop := -1000000000 ≤ n ∧ n ≤ 1000000000 ∧ 1 ≤ d ∧ d ≤ 1000000000 ∧ Nat.gcd n.natAbs d.natAbs = 1

/-- n divided by d in lowest terms, if it lies within the limits. -/
def red (n d : Int) : Option (Int × Int) :=
 if n.natAbs / Nat.gcd n.natAbs d.natAbs > 1000000000 ∨ d.natAbs / Nat.gcd n.natAbs d.natAbs > 1000000000 then none
 else if n < 0 ↔ d < 0 then some (((n.natAbs / Nat.gcd n.natAbs d.natAbs : Nat) : Int), ((d.natAbs / Nat.gcd n.natAbs d.natAbs : Nat) : Int))
 else some (-((n.natAbs / Nat.gcd n.natAbs d.natAbs : Nat) : Int), ((d.natAbs / Nat.gcd n.natAbs d.natAbs : Nat) : Int))

theorem parts (n d : Int) (hd : d ≠ 0) : ∃ g x y : Nat, 0 < g ∧ g = Nat.gcd n.natAbs d.natAbs ∧ n.natAbs = x * g ∧ d.natAbs = y * g ∧ Nat.gcd x y = 1 ∧ 0 < y ∧
  n.natAbs / Nat.gcd n.natAbs d.natAbs = x ∧ d.natAbs / Nat.gcd n.natAbs d.natAbs = y := by
 have hg : 0 < Nat.gcd n.natAbs d.natAbs := Nat.gcd_pos_of_pos_right _ (by omega)
 obtain ⟨x, hx⟩ := Nat.gcd_dvd_left n.natAbs d.natAbs
 obtain ⟨y, hy⟩ := Nat.gcd_dvd_right n.natAbs d.natAbs
 have ex : n.natAbs / Nat.gcd n.natAbs d.natAbs = x := Nat.div_eq_of_eq_mul_right hg hx
 have ey : d.natAbs / Nat.gcd n.natAbs d.natAbs = y := Nat.div_eq_of_eq_mul_right hg hy
 refine ⟨_, x, y, hg, rfl, by rw [Nat.mul_comm]; exact hx, by rw [Nat.mul_comm]; exact hy, ?_, ?_, ex, ey⟩
 ·have h := Nat.gcd_mul_left (Nat.gcd n.natAbs d.natAbs) x y
  rw [← hx, ← hy] at h
  have h1 : Nat.gcd n.natAbs d.natAbs * Nat.gcd x y = Nat.gcd n.natAbs d.natAbs * 1 := by rw [← h, Nat.mul_one]
  exact Nat.eq_of_mul_eq_mul_left hg h1
 ·rcases Nat.eq_zero_or_pos y with h | h
  ·rw [h] at hy; omega
  ·exact h

theorem red_val {n d p q : Int} (hd : d ≠ 0) (h : red n d = some (p, q)) : Val p q ∧ n * q = p * d := by
 obtain ⟨g, x, y, hg, _, hx, hy, hxy, hy0, ex, ey⟩ := parts n d hd
 unfold red at h
 rw [ex, ey] at h
 split at h
 ·cases h
 ·rename_i hle
  have hn : n = x * g ∨ n = -((x : Int) * g) := by
   have : ((x * g : Nat) : Int) = (x : Int) * g := Int.natCast_mul x g
   omega
  have hd' : d = y * g ∨ d = -((y : Int) * g) := by
   have : ((y * g : Nat) : Int) = (y : Int) * g := Int.natCast_mul y g
   omega
  have hgz : (0 : Int) < g := by omega
  have hyz : (0 : Int) < y := by omega
  have hxz : (0 : Int) ≤ x := by omega
  have hyg : (0 : Int) < (y : Int) * g := Int.mul_pos hyz hgz
  have hxg : (0 : Int) ≤ (x : Int) * g := Int.mul_nonneg hxz (by omega)
  split at h
  ·rename_i hs
   obtain ⟨rfl, rfl⟩ : (x : Int) = p ∧ (y : Int) = q := by simpa using h
   refine ⟨⟨by omega, by omega, by omega, by omega, by simpa using hxy⟩, ?_⟩
   rcases hn with hn | hn <;> rcases hd' with hd' | hd'
   ·rw [hn, hd']; grind
   ·exfalso; have h1 : ¬ n < 0 := by omega
    have h2 : d < 0 := by omega
    exact h1 (hs.2 h2)
   ·by_cases hx0 : (x : Int) = 0
    ·rw [hn, hx0]; simp
    ·exfalso
     have : (0 : Int) < (x : Int) * g := Int.mul_pos (by omega) hgz
     have h1 : n < 0 := by omega
     have h2 : ¬ d < 0 := by omega
     exact h2 (hs.1 h1)
   ·rw [hn, hd']; grind
  ·rename_i hs
   obtain ⟨rfl, rfl⟩ : -(x : Int) = p ∧ (y : Int) = q := by simpa using h
   refine ⟨⟨by omega, by omega, by omega, by omega, by simpa using hxy⟩, ?_⟩
   rcases hn with hn | hn <;> rcases hd' with hd' | hd'
   ·exfalso; exact hs ⟨fun _ => by omega, fun _ => by omega⟩
   ·rw [hn, hd']; grind
   ·rw [hn, hd']; grind
   ·by_cases hx0 : (x : Int) = 0
    ·rw [hn, hx0]; simp
    ·exfalso
     have : (0 : Int) < (x : Int) * g := Int.mul_pos (by omega) hgz
     exact hs ⟨fun _ => by omega, fun _ => by omega⟩

theorem red_of {n d p q : Int} (hd : d ≠ 0) (hv : Val p q) (h : n * q = p * d) : red n d = some (p, q) := by
 obtain ⟨v1, v2, v3, v4, v5⟩ := hv
 have e : n.natAbs * q.natAbs = p.natAbs * d.natAbs := by rw [← Int.natAbs_mul, ← Int.natAbs_mul, h]
 have hq : q.natAbs ∣ d.natAbs := by
  have h1 : q.natAbs ∣ p.natAbs * d.natAbs := ⟨n.natAbs, by rw [← e, Nat.mul_comm]⟩
  exact Nat.Coprime.dvd_of_dvd_mul_left (by rw [Nat.Coprime, Nat.gcd_comm]; exact v5) h1
 obtain ⟨k, hk⟩ := hq
 have hk0 : 0 < k := by
  rcases Nat.eq_zero_or_pos k with h | h
  ·rw [h] at hk; omega
  ·exact h
 have hn : n.natAbs = p.natAbs * k := by
  have : n.natAbs * q.natAbs = (p.natAbs * k) * q.natAbs := by rw [e, hk]; grind
  exact Nat.eq_of_mul_eq_mul_right (by omega) this
 have hg : Nat.gcd n.natAbs d.natAbs = k := by
  rw [hn, hk, Nat.gcd_mul_right, v5, Nat.one_mul]
 have ex : n.natAbs / Nat.gcd n.natAbs d.natAbs = p.natAbs := by rw [hg, hn]; exact Nat.mul_div_cancel _ hk0
 have ey : d.natAbs / Nat.gcd n.natAbs d.natAbs = q.natAbs := by rw [hg, hk]; exact Nat.mul_div_cancel _ hk0
 unfold red
 rw [ex, ey, if_neg (by omega)]
 have hqz : (q.natAbs : Int) = q := by omega
 have hq0 : 0 < q := by omega
 rcases Int.lt_trichotomy p 0 with hp | hp | hp
 ·have hs : ¬ (n < 0 ↔ d < 0) := by
   intro hs
   rcases Int.lt_trichotomy d 0 with h1 | h1 | h1
   ·have a := Int.mul_pos_of_neg_of_neg hp h1
    have b := Int.mul_neg_of_neg_of_pos (hs.2 h1) hq0
    omega
   ·exact hd h1
   ·have a := Int.mul_neg_of_neg_of_pos hp h1
    have h2 : ¬ n < 0 := fun x => by have := hs.1 x; omega
    have b := Int.mul_nonneg (by omega : 0 ≤ n) (by omega : 0 ≤ q)
    omega
  rw [if_neg hs]
  simp only [Option.some.injEq, Prod.mk.injEq]; omega
 ·subst hp
  split <;> (simp only [Option.some.injEq, Prod.mk.injEq]; omega)
 ·have hs : n < 0 ↔ d < 0 := by
   rcases Int.lt_trichotomy d 0 with h1 | h1 | h1
   ·refine ⟨fun _ => h1, fun _ => ?_⟩
    have a := Int.mul_neg_of_pos_of_neg hp h1
    rcases Int.lt_or_le n 0 with h2 | h2
    ·exact h2
    ·have b := Int.mul_nonneg h2 (by omega : 0 ≤ q); omega
   ·exact absurd h1 hd
   ·refine ⟨fun h2 => ?_, fun h2 => by omega⟩
    have a := Int.mul_pos hp h1
    have b := Int.mul_neg_of_neg_of_pos h2 hq0
    omega
  rw [if_pos hs]
  simp only [Option.some.injEq, Prod.mk.injEq]; omega

/-- Two numbers in lowest terms with one value are one. -/
theorem val_one {p q r s : Int} (h1 : Val p q) (h2 : Val r s) (h : p * s = r * q) : p = r ∧ q = s := by
 have a := red_of (n := p) (d := q) (by have := h1.2.2.1; omega) h1 rfl
 have b := red_of (n := p) (d := q) (by have := h1.2.2.1; omega) h2 h
 rw [a] at b
 simpa using b

/-! The sums of three numbers. -/
theorem add_assoc {an ad bn bd cn cd p q r s t u v x : Int} (ha : Val an ad) (hb : Val bn bd) (hc : Val cn cd)
  (h1 : red (an * bd + bn * ad) (ad * bd) = some (p, q)) (h2 : red (bn * cd + cn * bd) (bd * cd) = some (r, s))
  (h3 : red (p * cd + cn * q) (q * cd) = some (t, u)) (h4 : red (an * s + r * ad) (ad * s) = some (v, x)) : t = v ∧ u = x := by
 have a0 := ha.2.2.1
 have b0 := hb.2.2.1
 have c0 := hc.2.2.1
 obtain ⟨v1, e1⟩ := red_val (Int.mul_ne_zero (by omega) (by omega)) h1
 have q0 := v1.2.2.1
 obtain ⟨v2, e2⟩ := red_val (Int.mul_ne_zero (by omega) (by omega)) h2
 have s0 := v2.2.2.1
 obtain ⟨v3, e3⟩ := red_val (Int.mul_ne_zero (by omega) (by omega)) h3
 have u0 := v3.2.2.1
 obtain ⟨v4, e4⟩ := red_val (Int.mul_ne_zero (by omega) (by omega)) h4
 have x0 := v4.2.2.1
 refine val_one v3 v4 ?_
 have k1 : t * (ad * bd * cd) = (an * bd * cd + bn * ad * cd + cn * ad * bd) * u := Int.eq_of_mul_eq_mul_left (a := q) (by omega) (by grind)
 have k2 : v * (ad * bd * cd) = (an * bd * cd + bn * ad * cd + cn * ad * bd) * x := Int.eq_of_mul_eq_mul_left (a := s) (by omega) (by grind)
 have hD : ad * bd * cd ≠ 0 := Int.mul_ne_zero (Int.mul_ne_zero (by omega) (by omega)) (by omega)
 exact Int.eq_of_mul_eq_mul_left hD (by grind)
end Q
end Go.Proofs.Ytoaonficdkgfiaa
namespace Go.Proofs.Ytoaonficdkgfiaa
open Go.RowKit

theorem ret_u64 {a b : Int} (h : a = b) : Ending.returned (.int .u64 a) = .returned (.int .u64 b) := by rw [h]

/-- An integer without its sign. -/
def mag (n : Int) : Nat := n.natAbs
/-- The greatest common divisor. -/
def gd (a b : Nat) : Nat := Nat.gcd a b
theorem mag_lt {n : Int} (h0 : -9223372036854775808 ≤ n) (h1 : n ≤ 9223372036854775807) : mag n < 18446744073709551616 := by unfold mag; omega

set_option maxHeartbeats 400000 in
theorem size_any (n : Int) (w : World) (h0 : -9223372036854775808 ≤ n) (h1 : n ≤ 9223372036854775807) :
  Calls Try.prog 102 #[.int .i64 n] w fun e w' => e = .returned (.int .u64 (mag n)) ∧ w' = w := by
 by_cases h : n < 0
 ·go_enter Try.func102, Try.ntmps102
  go_wp2
  go_ret
  exact ⟨ret_u64 (by rw [IntKind.wrap_u64, IntKind.wrap_u64]; unfold mag; omega), rfl⟩
 ·go_enter Try.func102, Try.ntmps102
  go_wp2
  go_ret
  exact ⟨ret_u64 (by unfold mag; omega), rfl⟩

set_option maxHeartbeats 400000 in
theorem divisor_any (a b : Nat) (w : World) (ha : a < 18446744073709551616) (hb : b < 18446744073709551616) :
  Calls Try.prog 101 #[.int .u64 a, .int .u64 b] w fun e w' => e = .returned (.int .u64 (gd a b)) ∧ ∃ n, w' = w.drewN n := by
 go_enter Try.func101, Try.ntmps101
 go_wp2
 go_step3
 go_wp2
 go_step3
 go_wp2
 go_loopg [0, 1] b (fun k x y wr => ∃ a' b' : Nat, a' < 18446744073709551616 ∧ b' ≤ k ∧ b' < 18446744073709551616 ∧ x = .int .u64 a' ∧ y = .int .u64 b' ∧ Nat.gcd a' b' = Nat.gcd a b ∧ ∃ n, wr = w.drewN n)
 case atStart => exact ⟨a, b, ha, Nat.le_refl _, hb, rfl, rfl, rfl, 0, rfl⟩
 case round =>
  obtain ⟨a', b', ha', hk, hb', rfl, rfl, hg, n, rfl⟩ := hrel
  have HG := Lib.hid hg
  clear hg
  by_cases h : b' = 0
  ·subst h
   go_wp2
   rw [Exit.noGoto_ret]
   go_ret
   exact ⟨ret_u64 (by unfold gd; rw [← HG.out, Nat.gcd_zero_right]), n, rfl⟩
  ·have hz : ((b' : Int) == 0) = false := by simp; omega
   go_wp2
   go_quiet (fail)
   go_wp2
   rename_i nq _
   go_roundg (b' - 1)
   case measure => omega
   case rel =>
    have hm := Nat.mod_lt a' (show 0 < b' by omega)
    refine ⟨b', a' % b', hb', by omega, by omega, rfl, ?_, ?_, ?_⟩
    ·rw [Int.natCast_emod]
    ·rw [← HG.out, Nat.gcd_comm b', ← Nat.gcd_rec, Nat.gcd_comm]
    ·exact ⟨n + nq, by rw [World.drewN_drewN]⟩

theorem bodyPost_panic {P : Program} {fn : Func} {R : Ending → World → Prop} {a : Act} {w : World} {c : List PanicEntry} (hd : a.defers = []) (h : R (.panicked c) w) : bodyPost P fn R (.panic c) a w := ⟨hd, h⟩

/-- The facts that 'reduce' walks by: the two quotients. -/
structure Halved (n d : Int) (x y : Nat) : Prop where
 n0 : -9223372036854775808 ≤ n
 n1 : n ≤ 9223372036854775807
 d0 : -9223372036854775808 ≤ d
 d1 : d ≤ 9223372036854775807
 g0 : 0 < gd (mag n) (mag d)
 ex : mag n / gd (mag n) (mag d) = x
 ey : mag d / gd (mag n) (mag d) = y

/-- What Make gives: numerator, denominator, error. -/
def mk (n d : Int) : Int × Int × Int := if d = 0 then (0, 0, 7) else match Q.red n d with | some (p, q) => (p, q, 0) | none => (0, 0, 3)



set_option maxHeartbeats 400000 in
theorem rsize_any (n : Int) (w : World) (h0 : -9223372036854775808 ≤ n) (h1 : n ≤ 9223372036854775807) :
  Calls Try.prog 100 #[.int .i64 n] w fun e w' => e = .returned (.int .u64 (mag n)) ∧ w' = w := by
 by_cases h : n < 0
 ·go_enter Try.func100, Try.ntmps100
  go_wp2
  go_ret
  exact ⟨ret_u64 (by unfold mag; omega), rfl⟩
 ·go_enter Try.func100, Try.ntmps100
  go_wp2
  go_ret
  exact ⟨ret_u64 (by unfold mag; omega), rfl⟩

set_option maxHeartbeats 400000 in
theorem common_any (a b : Nat) (w : World) (ha : a < 18446744073709551616) (hb : b < 18446744073709551616) :
  Calls Try.prog 99 #[.int .u64 a, .int .u64 b] w fun e w' => e = .returned (.int .u64 (gd a b)) ∧ w' = w := by
 go_enter Try.func99, Try.ntmps99
 go_wp2
 go_loopg [0, 1] b (fun k x y wr => ∃ a' b' : Nat, a' < 18446744073709551616 ∧ b' ≤ k ∧ b' < 18446744073709551616 ∧ x = .int .u64 a' ∧ y = .int .u64 b' ∧ Nat.gcd a' b' = Nat.gcd a b ∧ wr = w)
 case atStart => exact ⟨a, b, ha, Nat.le_refl _, hb, rfl, rfl, rfl, rfl⟩
 case round =>
  obtain ⟨a', b', ha', hk, hb', rfl, rfl, hg, rfl⟩ := hrel
  have HG := Lib.hid hg
  clear hg
  by_cases h : b' = 0
  ·subst h
   go_wp2
   go_ret
   exact ⟨ret_u64 (by unfold gd; rw [← HG.out, Nat.gcd_zero_right]), rfl⟩
  ·have hz : ((b' : Int) == 0) = false := by simp; omega
   have hz' : ((b' : Int) != 0) = true := by simp; omega
   go_wp2
   go_roundg (b' - 1)
   case measure => omega
   case rel =>
    have hm := Nat.mod_lt a' (show 0 < b' by omega)
    refine ⟨b', a' % b', hb', by omega, by omega, rfl, ?_, ?_, rfl⟩
    ·rw [Int.natCast_emod]
    ·rw [← HG.out, Nat.gcd_comm b', ← Nat.gcd_rec, Nat.gcd_comm]

set_option maxRecDepth 100000 in
set_option maxHeartbeats 400000 in
theorem rmake_zero (n : Int) (w : World) : Calls Try.prog 89 #[.int .i64 n, .int .i64 0] w fun e w' =>
  e = .returned (.tuple #[.agg #[.int .i64 0, .int .i64 0], .int .i64 7]) ∧ Below w.heap.size w w' := by
 go_enter Try.func89, Try.ntmps89
 go_wp2
 exact bodyPost_ret (v := .tuple #[.agg #[.int .i64 0, .int .i64 0], .int .i64 7]) (by simp [results, Try.results89, go_sem]) rfl ⟨rfl, (by repeat' (first | exact Below.refl _ _ | refine Below.setCell ?_ (by first | omega | (simp; done) | (simp; omega)) _ | refine below_drewN ?_ _ | refine Below.alloc ?_ (by first | omega | (simp; done) | (simp; omega)) _))⟩

set_option maxRecDepth 100000 in
set_option maxHeartbeats 400000 in
theorem rmake_pos (n d : Int) (x y : Nat) (w : World) (hd0 : (d == 0) = false) (h : Halved n d x y) (hx : x ≤ 1000000000) (hy : y ≤ 1000000000) (hs : n < 0 ↔ d < 0) :
  Calls Try.prog 89 #[.int .i64 n, .int .i64 d] w fun e w' => e = .returned (.tuple #[.agg #[.int .i64 x, .int .i64 y], .int .i64 0]) ∧ Below w.heap.size w w' := by
 obtain ⟨n0, n1, d0, d1, g0, ex, ey⟩ := h
 have hX := mag_lt n0 n1
 have hY := mag_lt d0 d1
 have hz : ((gd (mag n) (mag d) : Int) == 0) = false := by simp; omega
 have ex' : (mag n : Int) / (gd (mag n) (mag d) : Int) = (x : Int) := by rw [← ex]; exact (Int.natCast_ediv _ _).symm
 have ey' : (mag d : Int) / (gd (mag n) (mag d) : Int) = (y : Int) := by rw [← ey]; exact (Int.natCast_ediv _ _).symm
 have hxl : x < 18446744073709551616 := by rw [← ex]; exact Nat.lt_of_le_of_lt (Nat.div_le_self _ _) hX
 have hyl : y < 18446744073709551616 := by rw [← ey]; exact Nat.lt_of_le_of_lt (Nat.div_le_self _ _) hY
 clear ex ey
 by_cases hn : n < 0
 ·have hd : d < 0 := hs.1 hn
  clear hs
  have hnb : decide (n < 0) = true := by simp; omega
  have hdb : decide (d < 0) = true := by simp; omega
  go_enter Try.func89, Try.ntmps89
  go_wp2_with (first | (go_at_call 100; refine (rsize_any _ _ (by omega) (by omega)).mono ?_; rintro e w' ⟨rfl, rfl⟩) | (go_at_call 99; refine (common_any _ _ _ (by omega) (by omega)).mono ?_; rintro e w' ⟨rfl, rfl⟩))
  exact bodyPost_ret (v := .tuple #[.agg #[.int .i64 x, .int .i64 y], .int .i64 0]) (by simp [results, Try.results89, go_sem]) rfl ⟨rfl, (by repeat' (first | exact Below.refl _ _ | refine Below.setCell ?_ (by first | omega | (simp; done) | (simp; omega)) _ | refine below_drewN ?_ _ | refine Below.alloc ?_ (by first | omega | (simp; done) | (simp; omega)) _))⟩
 ·have hd : ¬ d < 0 := fun c => hn (hs.2 c)
  clear hs
  have hnb : decide (n < 0) = false := by simp; omega
  have hdb : decide (d < 0) = false := by simp; omega
  go_enter Try.func89, Try.ntmps89
  go_wp2_with (first | (go_at_call 100; refine (rsize_any _ _ (by omega) (by omega)).mono ?_; rintro e w' ⟨rfl, rfl⟩) | (go_at_call 99; refine (common_any _ _ _ (by omega) (by omega)).mono ?_; rintro e w' ⟨rfl, rfl⟩))
  exact bodyPost_ret (v := .tuple #[.agg #[.int .i64 x, .int .i64 y], .int .i64 0]) (by simp [results, Try.results89, go_sem]) rfl ⟨rfl, (by repeat' (first | exact Below.refl _ _ | refine Below.setCell ?_ (by first | omega | (simp; done) | (simp; omega)) _ | refine below_drewN ?_ _ | refine Below.alloc ?_ (by first | omega | (simp; done) | (simp; omega)) _))⟩

set_option maxRecDepth 100000 in
set_option maxHeartbeats 400000 in
theorem rmake_neg (n d : Int) (x y : Nat) (w : World) (hd0 : (d == 0) = false) (h : Halved n d x y) (hx : x ≤ 1000000000) (hy : y ≤ 1000000000) (hs : ¬ (n < 0 ↔ d < 0)) :
  Calls Try.prog 89 #[.int .i64 n, .int .i64 d] w fun e w' => e = .returned (.tuple #[.agg #[.int .i64 (-(x : Int)), .int .i64 y], .int .i64 0]) ∧ Below w.heap.size w w' := by
 obtain ⟨n0, n1, d0, d1, g0, ex, ey⟩ := h
 have hX := mag_lt n0 n1
 have hY := mag_lt d0 d1
 have hz : ((gd (mag n) (mag d) : Int) == 0) = false := by simp; omega
 have ex' : (mag n : Int) / (gd (mag n) (mag d) : Int) = (x : Int) := by rw [← ex]; exact (Int.natCast_ediv _ _).symm
 have ey' : (mag d : Int) / (gd (mag n) (mag d) : Int) = (y : Int) := by rw [← ey]; exact (Int.natCast_ediv _ _).symm
 have hxl : x < 18446744073709551616 := by rw [← ex]; exact Nat.lt_of_le_of_lt (Nat.div_le_self _ _) hX
 have hyl : y < 18446744073709551616 := by rw [← ey]; exact Nat.lt_of_le_of_lt (Nat.div_le_self _ _) hY
 clear ex ey
 by_cases hn : n < 0
 ·have hd : ¬ d < 0 := fun c => hs ⟨fun _ => c, fun _ => hn⟩
  clear hs
  have hnb : decide (n < 0) = true := by simp; omega
  have hdb : decide (d < 0) = false := by simp; omega
  go_enter Try.func89, Try.ntmps89
  go_wp2_with (first | (go_at_call 100; refine (rsize_any _ _ (by omega) (by omega)).mono ?_; rintro e w' ⟨rfl, rfl⟩) | (go_at_call 99; refine (common_any _ _ _ (by omega) (by omega)).mono ?_; rintro e w' ⟨rfl, rfl⟩))
  exact bodyPost_ret (v := .tuple #[.agg #[.int .i64 (-(x : Int)), .int .i64 y], .int .i64 0]) (by simp [results, Try.results89, go_sem]) rfl ⟨rfl, (by repeat' (first | exact Below.refl _ _ | refine Below.setCell ?_ (by first | omega | (simp; done) | (simp; omega)) _ | refine below_drewN ?_ _ | refine Below.alloc ?_ (by first | omega | (simp; done) | (simp; omega)) _))⟩
 ·have hd : d < 0 := by omega
  clear hs
  have hnb : decide (n < 0) = false := by simp; omega
  have hdb : decide (d < 0) = true := by simp; omega
  go_enter Try.func89, Try.ntmps89
  go_wp2_with (first | (go_at_call 100; refine (rsize_any _ _ (by omega) (by omega)).mono ?_; rintro e w' ⟨rfl, rfl⟩) | (go_at_call 99; refine (common_any _ _ _ (by omega) (by omega)).mono ?_; rintro e w' ⟨rfl, rfl⟩))
  exact bodyPost_ret (v := .tuple #[.agg #[.int .i64 (-(x : Int)), .int .i64 y], .int .i64 0]) (by simp [results, Try.results89, go_sem]) rfl ⟨rfl, (by repeat' (first | exact Below.refl _ _ | refine Below.setCell ?_ (by first | omega | (simp; done) | (simp; omega)) _ | refine below_drewN ?_ _ | refine Below.alloc ?_ (by first | omega | (simp; done) | (simp; omega)) _))⟩

set_option maxRecDepth 100000 in
set_option maxHeartbeats 400000 in
theorem rmake_no (n d : Int) (x y : Nat) (w : World) (hd0 : (d == 0) = false) (h : Halved n d x y) (hx : 1000000000 < x ∨ 1000000000 < y) :
  Calls Try.prog 89 #[.int .i64 n, .int .i64 d] w fun e w' => e = .returned (.tuple #[.agg #[.int .i64 0, .int .i64 0], .int .i64 3]) ∧ Below w.heap.size w w' := by
 obtain ⟨n0, n1, d0, d1, g0, ex, ey⟩ := h
 have hX := mag_lt n0 n1
 have hY := mag_lt d0 d1
 have hz : ((gd (mag n) (mag d) : Int) == 0) = false := by simp; omega
 have ex' : (mag n : Int) / (gd (mag n) (mag d) : Int) = (x : Int) := by rw [← ex]; exact (Int.natCast_ediv _ _).symm
 have ey' : (mag d : Int) / (gd (mag n) (mag d) : Int) = (y : Int) := by rw [← ey]; exact (Int.natCast_ediv _ _).symm
 have hxl : x < 18446744073709551616 := by rw [← ex]; exact Nat.lt_of_le_of_lt (Nat.div_le_self _ _) hX
 have hyl : y < 18446744073709551616 := by rw [← ey]; exact Nat.lt_of_le_of_lt (Nat.div_le_self _ _) hY
 clear ex ey
 by_cases hx1 : 1000000000 < x
 ·clear hx
  have hxb : decide (1000000000 < (x : Int)) = true := by simp; omega
  go_enter Try.func89, Try.ntmps89
  go_wp2_with (first | (go_at_call 100; refine (rsize_any _ _ (by omega) (by omega)).mono ?_; rintro e w' ⟨rfl, rfl⟩) | (go_at_call 99; refine (common_any _ _ _ (by omega) (by omega)).mono ?_; rintro e w' ⟨rfl, rfl⟩))
  exact bodyPost_ret (v := .tuple #[.agg #[.int .i64 0, .int .i64 0], .int .i64 3]) (by simp [results, Try.results89, go_sem]) rfl ⟨rfl, (by repeat' (first | exact Below.refl _ _ | refine Below.setCell ?_ (by first | omega | (simp; done) | (simp; omega)) _ | refine below_drewN ?_ _ | refine Below.alloc ?_ (by first | omega | (simp; done) | (simp; omega)) _))⟩
 ·have hy1 : 1000000000 < y := by omega
  clear hx
  have hxb : decide (1000000000 < (x : Int)) = false := by simp; omega
  have hyb : decide (1000000000 < (y : Int)) = true := by simp; omega
  go_enter Try.func89, Try.ntmps89
  go_wp2_with (first | (go_at_call 100; refine (rsize_any _ _ (by omega) (by omega)).mono ?_; rintro e w' ⟨rfl, rfl⟩) | (go_at_call 99; refine (common_any _ _ _ (by omega) (by omega)).mono ?_; rintro e w' ⟨rfl, rfl⟩))
  exact bodyPost_ret (v := .tuple #[.agg #[.int .i64 0, .int .i64 0], .int .i64 3]) (by simp [results, Try.results89, go_sem]) rfl ⟨rfl, (by repeat' (first | exact Below.refl _ _ | refine Below.setCell ?_ (by first | omega | (simp; done) | (simp; omega)) _ | refine below_drewN ?_ _ | refine Below.alloc ?_ (by first | omega | (simp; done) | (simp; omega)) _))⟩

theorem rmake_any (n d : Int) (w : World) (n0 : -9223372036854775808 ≤ n) (n1 : n ≤ 9223372036854775807) (d0 : -9223372036854775808 ≤ d) (d1 : d ≤ 9223372036854775807) :
  Calls Try.prog 89 #[.int .i64 n, .int .i64 d] w fun e w' =>
   e = .returned (.tuple #[.agg #[.int .i64 (mk n d).1, .int .i64 (mk n d).2.1], .int .i64 (mk n d).2.2]) ∧ Below w.heap.size w w' := by
 by_cases h : d = 0
 ·subst h
  exact rmake_zero n w
 ·obtain ⟨g, x, y, hg, eg, _, _, _, _, ex, ey⟩ := Q.parts n d h
  have hz : (d == 0) = false := by simp; exact h
  have hh : Halved n d x y := ⟨n0, n1, d0, d1, by rw [eg] at hg; exact hg, ex, ey⟩
  unfold mk
  rw [if_neg h]
  unfold Q.red
  rw [ex, ey]
  by_cases hx : x > 1000000000 ∨ y > 1000000000
  ·rw [if_pos hx]
   exact rmake_no n d x y w hz hh hx
  ·rw [if_neg hx]
   by_cases hs : n < 0 ↔ d < 0
   ·rw [if_pos hs]
    exact rmake_pos n d x y w hz hh (by omega) (by omega) hs
   ·rw [if_neg hs]
    exact rmake_neg n d x y w hz hh (by omega) (by omega) hs
theorem mk_val {n d p q : Int} (hd : d ≠ 0) (h : mk n d = (p, q, 0)) : Q.Val p q := by
 unfold mk at h
 rw [if_neg hd] at h
 cases e : Q.red n d with
 | none => rw [e] at h; cases h
 | some r =>
  obtain ⟨p', q'⟩ := r
  rw [e] at h
  simp only [Prod.mk.injEq] at h
  obtain ⟨rfl, rfl, _⟩ := h
  exact (Q.red_val hd e).1
theorem mk_err {n d p q e : Int} (hd : d ≠ 0) (h : mk n d = (p, q, e)) (he : e ≠ 0) : p = 0 ∧ q = 0 ∧ e = 3 := by
 unfold mk at h
 rw [if_neg hd] at h
 cases e' : Q.red n d with
 | none => rw [e'] at h; simp only [Prod.mk.injEq] at h; exact ⟨h.1.symm, h.2.1.symm, h.2.2.symm⟩
 | some r => rw [e'] at h; simp only [Prod.mk.injEq] at h; exact absurd h.2.2.symm he
theorem mk_self {n d : Int} (h : Q.Val n d) : mk n d = (n, d, 0) := by
 unfold mk
 rw [if_neg (by have := h.2.2.1; omega), Q.red_of (by have := h.2.2.1; omega) h rfl]
/-- Is it a number? -/
def vld (n d : Int) : Bool := decide (-1000000000 ≤ n) && decide (n ≤ 1000000000) && decide (1 ≤ d) && decide (d ≤ 1000000000) && (gd (mag n) (mag d) == 1)
theorem vld_iff (n d : Int) : vld n d = true ↔ Q.Val n d := by
 unfold vld Q.Val gd mag
 simp only [Bool.and_eq_true, decide_eq_true_eq, beq_iff_eq, and_assoc]

set_option maxRecDepth 100000 in
set_option maxHeartbeats 400000 in
theorem valid_far (n d : Int) (w : World) (n0 : -9223372036854775808 ≤ n) (n1 : n ≤ 9223372036854775807) (d0 : -9223372036854775808 ≤ d) (d1 : d ≤ 9223372036854775807)
  (h : n < -1000000000 ∨ 1000000000 < n ∨ d < 1 ∨ 1000000000 < d) :
  Calls Try.prog 93 #[.agg #[.int .i64 n, .int .i64 d]] w fun e w' => e = .returned (.bool false) ∧ Below w.heap.size w w' := by
 have H := Lib.hid h
 clear h
 by_cases h1 : n < -1000000000
 ·clear H
  go_enter Try.func93, Try.ntmps93
  go_wp2
  go_ret
  exact ⟨rfl, (by repeat' (first | exact Below.refl _ _ | refine below_drewN ?_ _ | refine Below.alloc ?_ (by first | (simp; done) | (simp; omega)) _))⟩
 by_cases h2 : 1000000000 < n
 ·clear H
  have b1 : decide (n < -1000000000) = false := by simp; omega
  go_enter Try.func93, Try.ntmps93
  go_wp2
  go_ret
  exact ⟨rfl, (by repeat' (first | exact Below.refl _ _ | refine below_drewN ?_ _ | refine Below.alloc ?_ (by first | (simp; done) | (simp; omega)) _))⟩
 by_cases h3 : d < 1
 ·clear H
  have b1 : decide (n < -1000000000) = false := by simp; omega
  have b2 : decide (1000000000 < n) = false := by simp; omega
  go_enter Try.func93, Try.ntmps93
  go_wp2
  go_ret
  exact ⟨rfl, (by repeat' (first | exact Below.refl _ _ | refine below_drewN ?_ _ | refine Below.alloc ?_ (by first | (simp; done) | (simp; omega)) _))⟩
 ·have h4 : 1000000000 < d := by have := H.out; omega
  clear H
  have b1 : decide (n < -1000000000) = false := by simp; omega
  have b2 : decide (1000000000 < n) = false := by simp; omega
  have b3 : decide (d < 1) = false := by simp; omega
  go_enter Try.func93, Try.ntmps93
  go_wp2
  go_ret
  exact ⟨rfl, (by repeat' (first | exact Below.refl _ _ | refine below_drewN ?_ _ | refine Below.alloc ?_ (by first | (simp; done) | (simp; omega)) _))⟩

set_option maxRecDepth 100000 in
set_option maxHeartbeats 400000 in
theorem valid_near (n d : Int) (w : World) (n0 : -1000000000 ≤ n) (n1 : n ≤ 1000000000) (d0 : 1 ≤ d) (d1 : d ≤ 1000000000) :
  Calls Try.prog 93 #[.agg #[.int .i64 n, .int .i64 d]] w fun e w' => e = .returned (.bool ((gd (mag n) (mag d) : Int) == 1)) ∧ Below w.heap.size w w' := by
 have hX := mag_lt (n := n) (by omega) (by omega)
 have hY := mag_lt (n := d) (by omega) (by omega)
 have b1 : decide (n < -1000000000) = false := by simp; omega
 have b2 : decide (1000000000 < n) = false := by simp; omega
 have b3 : decide (d < 1) = false := by simp; omega
 have b4 : decide (1000000000 < d) = false := by simp; omega
 go_enter Try.func93, Try.ntmps93
 go_wp2
 go_quiet ((first | (go_at_call 102; exact Calls.quiet_of_same (size_any _ _ (by omega) (by omega))) | (go_at_call 101; exact Calls.quiet_of (divisor_any _ _ _ (by omega) (by omega)))))
 go_wp2
 go_ret
 exact ⟨rfl, (by repeat' (first | exact Below.refl _ _ | refine below_drewN ?_ _ | refine Below.alloc ?_ (by first | (simp; done) | (simp; omega)) _))⟩

theorem valid_any (n d : Int) (w : World) (n0 : -9223372036854775808 ≤ n) (n1 : n ≤ 9223372036854775807) (d0 : -9223372036854775808 ≤ d) (d1 : d ≤ 9223372036854775807) :
  Calls Try.prog 93 #[.agg #[.int .i64 n, .int .i64 d]] w fun e w' => e = .returned (.bool (vld n d)) ∧ Below w.heap.size w w' := by
 by_cases h : n < -1000000000 ∨ 1000000000 < n ∨ d < 1 ∨ 1000000000 < d
 ·refine (valid_far n d w n0 n1 d0 d1 h).mono ?_
  rintro e w' ⟨rfl, hb⟩
  refine ⟨?_, hb⟩
  have : vld n d = false := by
   rw [Bool.eq_false_iff]; intro hv
   have := (vld_iff n d).1 hv
   unfold Q.Val at this; omega
  rw [this]
 ·refine (valid_near n d w (by omega) (by omega) (by omega) (by omega)).mono ?_
  rintro e w' ⟨rfl, hb⟩
  refine ⟨?_, hb⟩
  have : vld n d = ((gd (mag n) (mag d) : Int) == 1) := by
   unfold vld
   rw [Bool.eq_iff_iff]
   simp only [Bool.and_eq_true, decide_eq_true_eq, beq_iff_eq]
   omega
  rw [this]

/-! What is computed of two fractions, in the walk's spelling. -/


set_option maxRecDepth 100000 in
set_option maxHeartbeats 400000 in
theorem rvalid_low (n d : Int) (w : World) (h : d < 1) :
  Calls Try.prog 70 #[.agg #[.int .i64 n, .int .i64 d]] w fun e w' => e = .returned (.bool false) ∧ Below w.heap.size w w' := by
 go_enter Try.func70, Try.ntmps70
 go_wp2
 go_ret
 exact ⟨rfl, (by repeat' (first | exact Below.refl _ _ | refine Below.setCell ?_ (by first | omega | (simp; done) | (simp; omega)) _ | refine below_drewN ?_ _ | refine Below.alloc ?_ (by first | omega | (simp; done) | (simp; omega)) _))⟩

set_option maxRecDepth 100000 in
set_option maxHeartbeats 400000 in
theorem rvalid_err (n d : Int) (w : World) (n0 : -9223372036854775808 ≤ n) (n1 : n ≤ 9223372036854775807) (d0 : -9223372036854775808 ≤ d) (d1 : d ≤ 9223372036854775807) (h : 1 ≤ d) (hm : mk n d = (0, 0, 3)) :
  Calls Try.prog 70 #[.agg #[.int .i64 n, .int .i64 d]] w fun e w' => e = .returned (.bool false) ∧ Below w.heap.size w w' := by
 have k := rmake_any n d (w.alloc (.cells #[.int .i64 n, .int .i64 d] 27)) n0 n1 d0 d1
 rw [hm] at k
 have K := Lib.hid k
 have f0 : decide (d < 1) = false := by simp; omega
 clear k hm
 go_enter Try.func70, Try.ntmps70
 go_wp2_with fail
 refine K.out.mono ?_
 rintro e w1 ⟨rfl, hb1⟩
 have hz1 := hb1.size
 simp only [World.size_alloc] at hz1
 have A1 : At2 w1 w.heap.size (.int .i64 n) (.int .i64 d) := (At2.new w _ _ _).below hb1 (by simp)
 have HBX : Below w.heap.size w w1 := ((Below.refl _ _).alloc (Nat.le_refl _) _).trans (hb1.mono (by simp))
 clear hb1
 obtain ⟨p0, p1, p2, p3⟩ := A1
 have pl : w.heap.size < w1.heap.size := by omega
 go_wp2
 go_ret
 exact ⟨rfl, (by repeat' (first | exact HBX | refine Below.setCell ?_ (by first | omega | (simp; done) | (simp; omega)) _ | refine below_drewN ?_ _ | refine Below.alloc ?_ (by first | omega | (simp; done) | (simp; omega)) _))⟩

set_option maxRecDepth 100000 in
set_option maxHeartbeats 400000 in
theorem rvalid_p (n d : Int) (w : World) (n0 : -9223372036854775808 ≤ n) (n1 : n ≤ 9223372036854775807) (d0 : -9223372036854775808 ≤ d) (d1 : d ≤ 9223372036854775807) (h : 1 ≤ d) (p q : Int) (hm : mk n d = (p, q, 0)) (hp : ¬ p = n) :
  Calls Try.prog 70 #[.agg #[.int .i64 n, .int .i64 d]] w fun e w' => e = .returned (.bool false) ∧ Below w.heap.size w w' := by
 have k := rmake_any n d (w.alloc (.cells #[.int .i64 n, .int .i64 d] 27)) n0 n1 d0 d1
 rw [hm] at k
 have K := Lib.hid k
 have f0 : decide (d < 1) = false := by simp; omega
 clear k hm
 go_enter Try.func70, Try.ntmps70
 go_wp2_with fail
 refine K.out.mono ?_
 rintro e w1 ⟨rfl, hb1⟩
 have hz1 := hb1.size
 simp only [World.size_alloc] at hz1
 have A1 : At2 w1 w.heap.size (.int .i64 n) (.int .i64 d) := (At2.new w _ _ _).below hb1 (by simp)
 have HBX : Below w.heap.size w w1 := ((Below.refl _ _).alloc (Nat.le_refl _) _).trans (hb1.mono (by simp))
 clear hb1
 obtain ⟨p0, p1, p2, p3⟩ := A1
 have pl : w.heap.size < w1.heap.size := by omega
 go_wp2
 go_ret
 exact ⟨rfl, (by repeat' (first | exact HBX | refine Below.setCell ?_ (by first | omega | (simp; done) | (simp; omega)) _ | refine below_drewN ?_ _ | refine Below.alloc ?_ (by first | omega | (simp; done) | (simp; omega)) _))⟩

set_option maxRecDepth 100000 in
set_option maxHeartbeats 400000 in
theorem rvalid_q (n d : Int) (w : World) (n0 : -9223372036854775808 ≤ n) (n1 : n ≤ 9223372036854775807) (d0 : -9223372036854775808 ≤ d) (d1 : d ≤ 9223372036854775807) (h : 1 ≤ d) (q : Int) (hm : mk n d = (n, q, 0)) (hp : ¬ q = d) :
  Calls Try.prog 70 #[.agg #[.int .i64 n, .int .i64 d]] w fun e w' => e = .returned (.bool false) ∧ Below w.heap.size w w' := by
 have k := rmake_any n d (w.alloc (.cells #[.int .i64 n, .int .i64 d] 27)) n0 n1 d0 d1
 rw [hm] at k
 have K := Lib.hid k
 have f0 : decide (d < 1) = false := by simp; omega
 clear k hm
 go_enter Try.func70, Try.ntmps70
 go_wp2_with fail
 refine K.out.mono ?_
 rintro e w1 ⟨rfl, hb1⟩
 have hz1 := hb1.size
 simp only [World.size_alloc] at hz1
 have A1 : At2 w1 w.heap.size (.int .i64 n) (.int .i64 d) := (At2.new w _ _ _).below hb1 (by simp)
 have HBX : Below w.heap.size w w1 := ((Below.refl _ _).alloc (Nat.le_refl _) _).trans (hb1.mono (by simp))
 clear hb1
 obtain ⟨p0, p1, p2, p3⟩ := A1
 have pl : w.heap.size < w1.heap.size := by omega
 go_wp2
 go_ret
 exact ⟨rfl, (by repeat' (first | exact HBX | refine Below.setCell ?_ (by first | omega | (simp; done) | (simp; omega)) _ | refine below_drewN ?_ _ | refine Below.alloc ?_ (by first | omega | (simp; done) | (simp; omega)) _))⟩

set_option maxRecDepth 100000 in
set_option maxHeartbeats 400000 in
theorem rvalid_y (n d : Int) (w : World) (n0 : -9223372036854775808 ≤ n) (n1 : n ≤ 9223372036854775807) (d0 : -9223372036854775808 ≤ d) (d1 : d ≤ 9223372036854775807) (h : 1 ≤ d) (hm : mk n d = (n, d, 0)) :
  Calls Try.prog 70 #[.agg #[.int .i64 n, .int .i64 d]] w fun e w' => e = .returned (.bool true) ∧ Below w.heap.size w w' := by
 have k := rmake_any n d (w.alloc (.cells #[.int .i64 n, .int .i64 d] 27)) n0 n1 d0 d1
 rw [hm] at k
 have K := Lib.hid k
 have f0 : decide (d < 1) = false := by simp; omega
 clear k hm
 go_enter Try.func70, Try.ntmps70
 go_wp2_with fail
 refine K.out.mono ?_
 rintro e w1 ⟨rfl, hb1⟩
 have hz1 := hb1.size
 simp only [World.size_alloc] at hz1
 have A1 : At2 w1 w.heap.size (.int .i64 n) (.int .i64 d) := (At2.new w _ _ _).below hb1 (by simp)
 have HBX : Below w.heap.size w w1 := ((Below.refl _ _).alloc (Nat.le_refl _) _).trans (hb1.mono (by simp))
 clear hb1
 obtain ⟨p0, p1, p2, p3⟩ := A1
 have pl : w.heap.size < w1.heap.size := by omega
 go_wp2
 go_ret
 exact ⟨rfl, (by repeat' (first | exact HBX | refine Below.setCell ?_ (by first | omega | (simp; done) | (simp; omega)) _ | refine below_drewN ?_ _ | refine Below.alloc ?_ (by first | omega | (simp; done) | (simp; omega)) _))⟩

theorem rvalid_any (n d : Int) (w : World) (n0 : -9223372036854775808 ≤ n) (n1 : n ≤ 9223372036854775807) (d0 : -9223372036854775808 ≤ d) (d1 : d ≤ 9223372036854775807) :
  Calls Try.prog 70 #[.agg #[.int .i64 n, .int .i64 d]] w fun e w' => e = .returned (.bool (vld n d)) ∧ Below w.heap.size w w' := by
 by_cases h : d < 1
 ·have e : vld n d = false := by
   rw [Bool.eq_false_iff]; intro hv
   have := ((vld_iff n d).1 hv).2.2.1; omega
  rw [e]
  exact rvalid_low n d w h
 obtain ⟨p, q, e, hm⟩ : ∃ p q e, mk n d = (p, q, e) := ⟨_, _, _, rfl⟩
 cases hv : vld n d
 ·by_cases he : e = 0
  ·subst he
   have vp := mk_val (by omega) hm
   by_cases hp : p = n
   ·subst hp
    have hq : ¬ q = d := fun x => by subst x; rw [(vld_iff p q).2 vp] at hv; cases hv
    exact rvalid_q p d w n0 n1 d0 d1 (by omega) q hm hq
   ·exact rvalid_p n d w n0 n1 d0 d1 (by omega) p q hm hp
  ·obtain ⟨rfl, rfl, rfl⟩ := mk_err (by omega) hm he
   exact rvalid_err n d w n0 n1 d0 d1 (by omega) hm
 ·exact rvalid_y n d w n0 n1 d0 d1 (by omega) (mk_self ((vld_iff n d).1 hv))

end Go.Proofs.Ytoaonficdkgfiaa
