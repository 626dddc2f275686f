/-
  What of the library's variables is read; contracts of Text.
-/
import Derived.Test.YtohnmffokichkaaDoorWalks5
import Derived.Lib.ItoaLen
import Derived.Lib.AppendIntMem
import Derived.Lib.SmallJoins
namespace Go.Proofs.YtohnmffokichkaaDoor
open Go.RowKit

theorem gTab : Tryd.prog.globalNamed "internal/strconv.uint64pow10" = some 3 := by kernel_rfl
theorem gSyn : Tryd.prog.globalNamed "strconv.ErrSyntax" = some 1 := by kernel_rfl
theorem gRng : Tryd.prog.globalNamed "strconv.ErrRange" = some 2 := by kernel_rfl

/-- The library's variables read as they were laid. -/
structure Env (w : World) : Prop where
  tab : Lib.TabIs Tryd.prog w "internal/strconv.uint64pow10" .u64 Lib.pow10Tab
  syn : ∃ tp p, w.var? Tryd.prog "strconv.ErrSyntax" = some #[.iface tp p]
  rng : ∃ tp p, w.var? Tryd.prog "strconv.ErrRange" = some #[.iface tp p]

theorem var_lt {w : World} {n : String} {g : Nat} {v : Value} {cs : List Value} (hg : Tryd.prog.globalNamed n = some g) (h : w.var? Tryd.prog n = some (v :: cs).toArray) : g < w.heap.size := by
  have e := World.var?_cell hg h 0
  exact World.block_lt_of_cell? _ ⟨g, 0, none⟩ (u := v) (by simpa using e)
theorem tab_lt {w : World} (h : Lib.TabIs Tryd.prog w "internal/strconv.uint64pow10" .u64 Lib.pow10Tab) : 3 < w.heap.size := by
  have e := h.cell gTab 0 (by decide)
  exact World.block_lt_of_cell? _ _ e
theorem Env.below {w w1 : World} (h : Env w) (hb : Below w.heap.size w w1) : Env w1 := by
  obtain ⟨h1, ⟨tp, p, h2⟩, ⟨tq, q, h3⟩⟩ := h
  exact ⟨var?_below hb gTab (tab_lt h1) h1, ⟨tp, p, var?_below hb gSyn (var_lt gSyn h2) h2⟩, ⟨tq, q, var?_below hb gRng (var_lt gRng h3) h3⟩⟩

/-- A string of these bytes. -/
def bs (l : List UInt8) : ByteArray := ⟨l.toArray⟩
/-- The text of a number. -/
def txt (a b : Int) : List UInt8 := if b = 1 then Lib.itoa a else Lib.itoa a ++ 47 :: Lib.itoa b

theorem itoa_any (n : Int) (w : World) (hE : Env w) (h0 : -9223372036854775808 ≤ n) (h1 : n ≤ 9223372036854775807) :
    Calls Tryd.prog 45 #[.int .i64 n] w fun e w' => e = .returned (.string (bs (Lib.itoa n))) ∧ Below w.heap.size w w' := by
  refine (Tryd.strconv_Itoa n h0 h1 w hE.tab).mono ?_
  rintro e w' ⟨rfl, k, os, rfl⟩
  exact ⟨rfl, Lib.below_grow _ _ (Nat.le_refl _) _ _⟩

/-- What Text gives. -/
def texR (a b : Int) : List UInt8 × Int := if vld a b = true then (txt a b, 0) else ([], 1)

theorem txt_one (a : Int) : txt a 1 = Lib.itoa a := by unfold txt; rw [if_pos rfl]
theorem txt_two {a b : Int} (h : ¬ b = 1) : bs (txt a b) = bs (Lib.itoa a) ++ (⟨#[47]⟩ ++ bs (Lib.itoa b)) := by
  unfold txt; rw [if_neg h]
  apply ByteArray.ext
  simp [bs]

theorem bs_size (l : List UInt8) : (bs l).size = l.length := by simp [bs, ByteArray.size]

set_option maxRecDepth 100000 in
set_option maxHeartbeats 400000 in
theorem text_any (a b : Int) (w : World) (hE : Env w)
    (a0 : -9223372036854775808 ≤ a) (a1 : a ≤ 9223372036854775807) (b0 : -9223372036854775808 ≤ b) (b1 : b ≤ 9223372036854775807) :
    Calls Tryd.prog 26 #[.agg #[.int .i64 a, .int .i64 b]] w fun e w' =>
      e = .returned (.tuple #[.string (bs (texR a b).1), .int .i64 (texR a b).2]) ∧ Below w.heap.size w w' := by
  have HE := Lib.hid hE
  clear hE
  cases h : vld a b
  · have e : texR a b = ([], 1) := by unfold texR; rw [if_neg (fun x => by rw [h] at x; cases x)]
    rw [e]
    go_enter Tryd.func26, Tryd.ntmps26
    go_wp2_with fail
    refine (valid_any _ _ _ (by omega) (by omega) (by omega) (by omega)).mono ?_
    rintro e w1 ⟨rfl, hb1⟩
    have HBX : Below w.heap.size w w1 := ((Below.refl _ _).alloc (Nat.le_refl _) _).trans (hb1.mono (by simp))
    clear hb1
    go_wp2
    go_ret2
    exact ⟨rfl, HBX⟩
  · have e : texR a b = (txt a b, 0) := by unfold texR; rw [if_pos h]
    rw [e]
    obtain ⟨v1, v2, v3, v4, _⟩ := (vld_iff a b).1 h
    have l1 : (bs (Lib.itoa a)).size ≤ 21 := by rw [bs_size]; exact Lib.itoa_length_le a a0 a1
    have l2 : (bs (Lib.itoa b)).size ≤ 21 := by rw [bs_size]; exact Lib.itoa_length_le b b0 b1
    go_enter Tryd.func26, Tryd.ntmps26
    go_wp2_with fail
    refine (valid_any _ _ _ (by omega) (by omega) (by omega) (by omega)).mono ?_
    rintro e w1 ⟨rfl, hb1⟩
    have hz1 := hb1.size
    simp only [World.size_alloc] at hz1
    have A1 : At2 w1 w.heap.size (.int .i64 a) (.int .i64 b) := (At2.new w _ _ _).below hb1 (by simp)
    have HB1 : Below w.heap.size w w1 := ((Below.refl _ _).alloc (Nat.le_refl _) _).trans (hb1.mono (by simp))
    clear hb1
    obtain ⟨p0, p1, p2, p3⟩ := A1
    go_wp2_with fail
    refine (itoa_any _ _ (HE.out.below HB1) (by omega) (by omega)).mono ?_
    rintro e w2 ⟨rfl, hb2⟩
    have A2 := (At2.mk p0 p1 p2 p3).below hb2 (by omega)
    have HB2 : Below w.heap.size w w2 := HB1.trans (hb2.mono (by omega))
    clear p0 p1 p2 p3 hb2 HB1
    obtain ⟨p0, p1, p2, p3⟩ := A2
    by_cases hb : b = 1
    · subst hb
      go_wp2
      go_ret2
      refine ⟨?_, HB2⟩
      rw [txt_one]; rfl
    · have hbb : (b != 1) = true := by simp; exact hb
      go_wp2_with fail
      refine (itoa_any _ _ (HE.out.below HB2) (by omega) (by omega)).mono ?_
      rintro e w3 ⟨rfl, hb3⟩
      have HBX : Below w.heap.size w w3 := HB2.trans (hb3.mono HB2.size)
      clear p0 p1 p2 p3 hb3 HB2
      go_wp2
      go_ret2
      refine ⟨?_, HBX⟩
      rw [txt_two hb]; rfl
end Go.Proofs.YtohnmffokichkaaDoor
