/-
  What of the library's table is read; the contract of Text.
-/
import Derived.Test.YtamccmeibnihpaaGreatDoorMWalks1
import Derived.Test.YtamccmeibnihpaaGreatDoorMShelfT
import Derived.Lib.ItoaLen
import Derived.Lib.AppendIntMem
import Derived.Lib.SmallJoins
namespace Go.Proofs.YtamccmeibnihpaaGreatDoor
open Go.RowKit

theorem gTab : Tryz.prog.globalNamed "internal/strconv.uint64pow10" = some 3 := by kernel_rfl

/-- The library's table reads as it was laid. -/
def Tab (w : World) : Prop := Lib.TabIs Tryz.prog w "internal/strconv.uint64pow10" .u64 Lib.pow10Tab

theorem tab_lt {w : World} (h : Tab w) : 3 < w.heap.size := by
  have e := Lib.TabIs.cell h gTab 0 (by decide)
  exact World.block_lt_of_cell? _ _ e
theorem Tab.below {w w1 : World} (h : Tab w) (hb : Below w.heap.size w w1) : Tab w1 := var?_below hb gTab (tab_lt h) h

/-- A string of these bytes. -/
def bs (l : List UInt8) : ByteArray := ⟨l.toArray⟩
theorem bs_size (l : List UInt8) : (bs l).size = l.length := by simp [bs, ByteArray.size]
theorem bs_append (l k : List UInt8) : bs l ++ bs k = bs (l ++ k) := by
  apply ByteArray.ext
  simp [bs]

theorem itoa_any (n : Int) (w : World) (hE : Tab w) (h0 : -9223372036854775808 ≤ n) (h1 : n ≤ 9223372036854775807) :
    Calls Tryz.prog 27 #[.int .i64 n] w fun e w' => e = .returned (.string (bs (Lib.itoa n))) ∧ Below w.heap.size w w' := by
  refine (Tryz.strconv_Itoa n h0 h1 w hE).mono ?_
  rintro e w' ⟨rfl, k, os, rfl⟩
  exact ⟨rfl, Lib.below_grow _ _ (Nat.le_refl _) _ _⟩

/-- The text of an integer from 0 on, in cents. -/
def txA (a : Int) : List UInt8 := Lib.itoa (a / 100) ++ ([46] ++ (Lib.itoa (a / 10 % 10) ++ Lib.itoa (a % 10)))
/-- The text of an amount. -/
def txM (c : Int) : List UInt8 := if c < 0 then [45] ++ txA (ab c) else txA (ab c)
/-- What Text gives. -/
def texT (c : Int) : List UInt8 := if amt c = true then txM c else []
def texE (c : Int) : Int := if amt c = true then 0 else 1

set_option maxRecDepth 100000 in
set_option maxHeartbeats 1000000 in
theorem text_any (c : Int) (w : World) (hE : Tab w) :
    Calls Tryz.prog 13 #[.int .i64 c] w fun e w' => e = .returned (.tuple #[.string (bs (texT c)), .int .i64 (texE c)]) ∧ Below w.heap.size w w' := by
  have HE := Lib.hid hE
  clear hE
  cases hc : amt c with
  | false =>
    have E1 : texT c = [] := by unfold texT; rw [hc, if_neg (by simp)]
    have E2 : texE c = 1 := by unfold texE; rw [hc, if_neg (by simp)]
    rw [E1, E2]
    have hca : ∀ w : World, Calls Tryz.prog 17 #[.int .i64 c] w fun e w' => e = .returned (.bool false) ∧ w = w' := fun w => by rw [← hc]; exact amount_any c w
    have K := Lib.hid hca
    clear hc hca E1 E2
    go_enter Tryz.func13, Tryz.ntmps13
    go_wp2_with fail
    refine (K.out _).mono ?_
    rintro e w' ⟨rfl, rfl⟩
    go_wp2
    go_ret2
    exact ⟨rfl, Below.refl _ _⟩
  | true =>
    have E1 : texT c = txM c := by unfold texT; rw [if_pos hc]
    have E2 : texE c = 0 := by unfold texE; rw [if_pos hc]
    rw [E1, E2]
    have hcb := (amt_iff c).1 hc
    have hca : ∀ w : World, Calls Tryz.prog 17 #[.int .i64 c] w fun e w' => e = .returned (.bool true) ∧ w = w' := fun w => by rw [← hc]; exact amount_any c w
    have K := Lib.hid hca
    obtain ⟨a, ha⟩ : ∃ a, a = ab c := ⟨_, rfl⟩
    have hab : ∀ w : World, Calls Tryz.prog 26 #[.int .i64 c] w fun e w' => e = .returned (.int .i64 a) ∧ w = w' := fun w => by rw [ha]; exact abs_any c w (by omega) (by omega)
    have KA := Lib.hid hab
    have a0 : 0 ≤ a := by rw [ha]; unfold ab; split <;> omega
    have a1 : a ≤ 1000000000 := by rw [ha]; unfold ab; split <;> omega
    have HA : Hid (a = ab c) := ha
    obtain ⟨A, hA⟩ : ∃ A, A = Lib.itoa (a / 100) := ⟨_, rfl⟩
    obtain ⟨B, hB⟩ : ∃ A, A = Lib.itoa (a / 10 % 10) := ⟨_, rfl⟩
    obtain ⟨C, hC⟩ : ∃ A, A = Lib.itoa (a % 10) := ⟨_, rfl⟩
    have l1 : (bs A).size ≤ 21 := by rw [bs_size, hA]; exact Lib.itoa_length_le _ (by omega) (by omega)
    have l2 : (bs B).size ≤ 21 := by rw [bs_size, hB]; exact Lib.itoa_length_le _ (by omega) (by omega)
    have l3 : (bs C).size ≤ 21 := by rw [bs_size, hC]; exact Lib.itoa_length_le _ (by omega) (by omega)
    have k1 := Lib.hid (fun w : World => fun h : Tab w => itoa_any (a / 100) w h (by omega) (by omega))
    have k2 := Lib.hid (fun w : World => fun h : Tab w => itoa_any (a / 10 % 10) w h (by omega) (by omega))
    have k3 := Lib.hid (fun w : World => fun h : Tab w => itoa_any (a % 10) w h (by omega) (by omega))
    rw [← hA] at k1
    rw [← hB] at k2
    rw [← hC] at k3
    have HT : Hid (txA a = A ++ ([46] ++ (B ++ C))) := by show _ = _; rw [hA, hB, hC]; rfl
    clear hc hca hab ha hA hB hC E1 E2
    by_cases hn : c < 0
    · have HX : Hid (bs (txM c) = ⟨#[45]⟩ ++ (((bs A ++ ⟨#[46]⟩) ++ bs B) ++ bs C)) := by
        show _ = _
        unfold txM
        rw [if_pos hn, ← HA.out, HT.out]
        apply ByteArray.ext
        simp [bs]
      go_enter Tryz.func13, Tryz.ntmps13
      go_wp2_with fail
      refine (K.out _).mono ?_
      rintro e w' ⟨rfl, rfl⟩
      go_wp2_with fail
      refine (KA.out _).mono ?_
      rintro e w' ⟨rfl, rfl⟩
      go_wp2_with fail
      refine (k1.out _ HE.out).mono ?_
      rintro e w1 ⟨rfl, hb1⟩
      have B1 : Aside (Below w.heap.size w w1) := hb1
      clear hb1
      go_wp2_with fail
      refine (k2.out _ (HE.out.below B1.out)).mono ?_
      rintro e w2 ⟨rfl, hb2⟩
      have B2 : Aside (Below w.heap.size w w2) := B1.out.trans (hb2.mono B1.out.size)
      clear hb2 B1
      go_wp2_with fail
      refine (k3.out _ (HE.out.below B2.out)).mono ?_
      rintro e w3 ⟨rfl, hb3⟩
      have B3 : Aside (Below w.heap.size w w3) := B2.out.trans (hb3.mono B2.out.size)
      clear hb3 B2
      go_wp2
      go_ret2
      refine ⟨?_, B3.out⟩
      rw [HX.out]; rfl
    · have HX : Hid (bs (txM c) = ((bs A ++ ⟨#[46]⟩) ++ bs B) ++ bs C) := by
        show _ = _
        unfold txM
        rw [if_neg hn, ← HA.out, HT.out]
        apply ByteArray.ext
        simp [bs]
      go_enter Tryz.func13, Tryz.ntmps13
      go_wp2_with fail
      refine (K.out _).mono ?_
      rintro e w' ⟨rfl, rfl⟩
      go_wp2_with fail
      refine (KA.out _).mono ?_
      rintro e w' ⟨rfl, rfl⟩
      go_wp2_with fail
      refine (k1.out _ HE.out).mono ?_
      rintro e w1 ⟨rfl, hb1⟩
      have B1 : Aside (Below w.heap.size w w1) := hb1
      clear hb1
      go_wp2_with fail
      refine (k2.out _ (HE.out.below B1.out)).mono ?_
      rintro e w2 ⟨rfl, hb2⟩
      have B2 : Aside (Below w.heap.size w w2) := B1.out.trans (hb2.mono B1.out.size)
      clear hb2 B1
      go_wp2_with fail
      refine (k3.out _ (HE.out.below B2.out)).mono ?_
      rintro e w3 ⟨rfl, hb3⟩
      have B3 : Aside (Below w.heap.size w w3) := B2.out.trans (hb3.mono B2.out.size)
      clear hb3 B2
      go_wp2
      go_ret2
      refine ⟨?_, B3.out⟩
      rw [HX.out]; rfl
end Go.Proofs.YtamccmeibnihpaaGreatDoor
