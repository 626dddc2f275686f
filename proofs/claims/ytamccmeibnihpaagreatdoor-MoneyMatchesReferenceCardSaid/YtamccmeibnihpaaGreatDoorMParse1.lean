/-
  Contracts of areDigits, isWhole, of strings.Cut at a point, and of Atoi.
-/
import Derived.Test.YtamccmeibnihpaaGreatDoorMText
import Derived.Lib.IndexLaws
import Derived.Shelf.Strings.SlTrimAscii
namespace Go.Proofs.YtamccmeibnihpaaGreatDoor
open Go.RowKit

/-- Is it a decimal digit? -/
def isD (c : UInt8) : Bool := decide (48 ≤ c.toNat) && decide (c.toNat ≤ 57)
/-- The ten digits. -/
def digs : List UInt8 := [48, 49, 50, 51, 52, 53, 54, 55, 56, 57]
theorem digs_iff (c : UInt8) : digs.contains c = isD c := by
  have h : ∀ k : Fin 256, digs.contains (UInt8.ofNat k.val) = isD (UInt8.ofNat k.val) := by decide +kernel
  have := h ⟨c.toNat, c.toNat_lt⟩
  simpa using this

/-- Nothing but digits. -/
def allD (l : List UInt8) : Bool := l.all isD

theorem dropWhile_nil (p : UInt8 → Bool) : ∀ l : List UInt8, l.dropWhile p = [] ↔ l.all p = true
  | [] => by simp
  | c :: l => by
    rw [List.dropWhile_cons, List.all_cons]
    cases h : p c with
    | true => simpa using dropWhile_nil p l
    | false => simp
theorem trim_nil (l : List UInt8) : Lib.trimS l digs = [] ↔ allD l = true := by
  have e : (fun c => digs.contains c) = isD := funext digs_iff
  unfold Lib.trimS Lib.trimLeftS Lib.trimRightS allD
  rw [e, dropWhile_nil]
  constructor
  · intro h
    -- what is left behind the right end begins with a digit only if it is empty
    rw [List.all_eq_true] at h ⊢
    have hd : l.reverse.dropWhile isD = [] := by
      cases hc : l.reverse.dropWhile isD with
      | nil => rfl
      | cons c r =>
        have h1 : isD c = true := h c (by rw [hc]; simp)
        have h2 := List.head_dropWhile_not isD (l := l.reverse) (by rw [hc]; simp)
        simp only [hc, List.head_cons] at h2
        rw [h1] at h2; cases h2
    have := (dropWhile_nil isD l.reverse).1 hd
    rw [List.all_eq_true] at this
    intro x hx
    exact this x (by simpa using hx)
  · intro h
    have : l.reverse.dropWhile isD = [] := (dropWhile_nil isD _).2 (by rw [List.all_reverse]; exact h)
    rw [this]; rfl

theorem trim_any (s : ByteArray) (w : World) (hs : s.size ≤ 9223372036854775807) :
    Calls Tryz.prog 42 #[.string s, .string ⟨#[48, 49, 50, 51, 52, 53, 54, 55, 56, 57]⟩] w fun e w' => e = .returned (.string ⟨(Lib.trimS s.data.toList digs).toArray⟩) ∧ Below w.heap.size w w' :=
  Any.strings_Trim_laid Tryz.lays160 (by kernel_rfl) s ⟨#[48, 49, 50, 51, 52, 53, 54, 55, 56, 57]⟩ w hs (by decide) (ascii_of_all (by decide))

set_option maxHeartbeats 400000 in
theorem areDigits_any (s : ByteArray) (w : World) (hs : s.size ≤ 9223372036854775807) :
    Calls Tryz.prog 32 #[.string s] w fun e w' => e = .returned (.bool (allD s.data.toList)) ∧ Below w.heap.size w w' := by
  cases h : allD s.data.toList with
  | true =>
    have hk : ∀ w, Calls Tryz.prog 42 #[.string s, .string ⟨#[48, 49, 50, 51, 52, 53, 54, 55, 56, 57]⟩] w fun e w' => e = .returned (.string ⟨#[]⟩) ∧ Below w.heap.size w w' := fun w => by
      have := trim_any s w hs
      rw [(trim_nil _).2 h] at this
      exact this
    have K := Lib.hid hk
    clear hk h
    go_enter Tryz.func32, Tryz.ntmps32
    go_wp2_with fail
    refine (K.out _).mono ?_
    rintro e w1 ⟨rfl, hb⟩
    go_wp2
    go_ret
    exact ⟨rfl, hb⟩
  | false =>
    obtain ⟨t, ht⟩ : ∃ t, t = Lib.trimS s.data.toList digs := ⟨_, rfl⟩
    have hne : ¬ t = [] := by rw [ht]; intro e; have := (trim_nil _).1 e; rw [h] at this; cases this
    have hk : ∀ w, Calls Tryz.prog 42 #[.string s, .string ⟨#[48, 49, 50, 51, 52, 53, 54, 55, 56, 57]⟩] w fun e w' => e = .returned (.string ⟨t.toArray⟩) ∧ Below w.heap.size w w' := fun w => by rw [ht]; exact trim_any s w hs
    have K := Lib.hid hk
    have HN : Hid (¬ t = []) := hne
    clear hk h ht hne
    go_enter Tryz.func32, Tryz.ntmps32
    go_wp2_with fail
    refine (K.out _).mono ?_
    rintro e w1 ⟨rfl, hb⟩
    go_wp2
    go_ret
    refine ⟨?_, hb⟩
    simp
    exact HN.out

/-- Digits of an integer from 0 on, without superfluous zeros. -/
def whl (l : List UInt8) : Bool := decide (l = [48]) || (decide (l ≠ []) && decide (l.head? ≠ some 48) && allD l)

theorem bs_of (s : ByteArray) : s = bs s.data.toList := by apply ByteArray.ext; simp [bs]
theorem bs_list (l : List UInt8) : (bs l).toList = l := by rw [Lib.toList_data]; simp [bs]

set_option maxHeartbeats 1000000 in
theorem isWhole_any (l : List UInt8) (w : World) (hs : l.length ≤ 9223372036854775807) :
    Calls Tryz.prog 31 #[.string (bs l)] w fun e w' => e = .returned (.bool (whl l)) ∧ Below w.heap.size w w' := by
  by_cases h0 : l = [48]
  · subst h0
    show Calls Tryz.prog 31 #[.string ⟨#[48]⟩] w _
    go_enter Tryz.func31, Tryz.ntmps31
    go_wp2
    go_ret
    exact ⟨rfl, Below.refl _ _⟩
  by_cases h1 : l = []
  · subst h1
    show Calls Tryz.prog 31 #[.string ⟨#[]⟩] w _
    go_enter Tryz.func31, Tryz.ntmps31
    go_wp2
    go_ret
    exact ⟨rfl, Below.refl _ _⟩
  · obtain ⟨c, r, rfl⟩ : ∃ c r, l = c :: r := by
      cases l with
      | nil => exact absurd rfl h1
      | cons c r => exact ⟨c, r, rfl⟩
    have hsz : (bs (c :: r)).size = r.length + 1 := by rw [bs_size]; rfl
    have f1 : ((bs (c :: r)).toList == [48]) = false := by rw [bs_list]; simpa using h0
    have f2 : (bs (c :: r)).toList = c :: r := bs_list _
    have K := Lib.hid (fun w : World => areDigits_any (bs (c :: r)) w (by rw [bs_size]; exact hs))
    have e3 : (bs (c :: r)).data.toList = c :: r := by simp [bs]
    rw [e3] at K
    have hget : ∀ h, (bs (c :: r))[0]'h = c := fun h => rfl
    have f3 : (bs (c :: r)).toList.isEmpty = false := by rw [bs_list]; rfl
    have f4 : ((bs (c :: r)).toList == []) = false := by rw [bs_list]; rfl
    have HX : Hid (c :: r ≠ [48]) := h0
    by_cases h2 : c = 48
    · have e : whl (c :: r) = false := by
        unfold whl
        rw [decide_eq_false h0, h2]; simp
      rw [e]
      have c1 : ((c.toNat : Int) == 48) = true := by rw [h2]; rfl
      have c2 : ((c.toNat : Int) != 48) = false := by rw [h2]; rfl
      clear h0 h1 e f2 h2 K e3
      generalize hgs : bs (c :: r) = s at *
      clear hgs
      go_enter Tryz.func31, Tryz.ntmps31
      go_wp2
      go_ret
      exact ⟨rfl, Below.refl _ _⟩
    · have e : whl (c :: r) = allD (c :: r) := by
        unfold whl
        rw [decide_eq_false h0]; simp [h2]
      rw [e]
      have c1 : ((c.toNat : Int) == 48) = false := by
        rw [beq_eq_false_iff_ne]; intro h; exact h2 (UInt8.toNat_inj.1 (by show c.toNat = 48; omega))
      have c2 : ((c.toNat : Int) != 48) = true := by rw [bne, c1]; rfl
      clear h0 h1 e f2 h2 e3
      generalize allD (c :: r) = v at *
      generalize hgs : bs (c :: r) = s at *
      clear hgs
      go_enter Tryz.func31, Tryz.ntmps31
      go_wp2_with fail
      refine (K.out _).mono ?_
      rintro e w1 ⟨rfl, hb⟩
      go_wp2
      go_ret
      exact ⟨rfl, hb⟩
end Go.Proofs.YtamccmeibnihpaaGreatDoor
