/-
  Contracts of strings.Cut at a slash, of Atoi, and of Parse.
-/
import Derived.Test.YtohnmffokichkaaDoorWalks6
import Derived.Lib.IndexLaws
namespace Go.Proofs.YtohnmffokichkaaDoor
open Go.RowKit

theorem ext_take (s : ByteArray) (i : Nat) : s.extract 0 i = bs (s.data.toList.take i) := by
  apply ByteArray.ext
  apply Array.ext'
  simp [bs]
theorem ext_drop (s : ByteArray) (i : Nat) : s.extract i s.size = bs (s.data.toList.drop i) := by
  apply ByteArray.ext
  apply Array.ext'
  rw [Lib.extract_to_end]
  simp [bs]

set_option maxRecDepth 100000 in
set_option maxHeartbeats 400000 in
theorem cut_some0 (s : ByteArray) (i : Nat) (w : World) (hs : s.size ≤ 9223372036854775806) (h : Lib.indexByte s.data.toList 47 = i) (hi : i < s.size) :
    Calls Tryd.prog 52 #[.string s, .string ⟨#[47]⟩] w fun e w' =>
      e = .returned (.tuple #[.string (bs (s.data.toList.take i)), .string (bs (s.data.toList.drop (i + 1))), .bool true]) ∧ Below w.heap.size w w' := by
  have H := Lib.hid h
  clear h
  go_enter Tryd.func52, Tryd.ntmps52
  go_wp2_with fail
  refine (Tryd.stringslite_Index_one _ _ _).mono ?_
  rintro e w' ⟨rfl, rfl⟩
  rw [H.out]
  go_wp2
  go_quiet (fail)
  go_wp2
  go_ret3
  refine ⟨?_, below_drewN (Below.refl _ _) _⟩
  rw [← ext_take, ← ext_drop]; rfl

set_option maxRecDepth 100000 in
set_option maxHeartbeats 400000 in
theorem cut_none0 (s : ByteArray) (w : World) (h : Lib.indexByte s.data.toList 47 = -1) :
    Calls Tryd.prog 52 #[.string s, .string ⟨#[47]⟩] w fun e w' =>
      e = .returned (.tuple #[.string s, .string ⟨#[]⟩, .bool false]) ∧ Below w.heap.size w w' := by
  have H := Lib.hid h
  clear h
  go_enter Tryd.func52, Tryd.ntmps52
  go_wp2_with fail
  refine (Tryd.stringslite_Index_one _ _ _).mono ?_
  rintro e w' ⟨rfl, rfl⟩
  rw [H.out]
  go_wp2
  go_ret3
  exact ⟨rfl, Below.refl _ _⟩

/-- Cut at the first slash. -/
def cutS (l : List UInt8) : List UInt8 × List UInt8 × Bool :=
  if 0 ≤ Lib.indexByte l 47 then (l.take (Lib.indexByte l 47).toNat, l.drop ((Lib.indexByte l 47).toNat + 1), true) else (l, [], false)

set_option maxRecDepth 100000 in
set_option maxHeartbeats 400000 in
theorem cut_any (s : ByteArray) (w : World) (hs : s.size ≤ 9223372036854775806) :
    Calls Tryd.prog 47 #[.string s, .string ⟨#[47]⟩] w fun e w' =>
      e = .returned (.tuple #[.string (bs (cutS s.data.toList).1), .string (bs (cutS s.data.toList).2.1), .bool (cutS s.data.toList).2.2]) ∧ Below w.heap.size w w' := by
  have hF : ∀ w, Calls Tryd.prog 52 #[.string s, .string ⟨#[47]⟩] w fun e w' =>
      e = .returned (.tuple #[.string (bs (cutS s.data.toList).1), .string (bs (cutS s.data.toList).2.1), .bool (cutS s.data.toList).2.2]) ∧ Below w.heap.size w w' := by
    intro w
    by_cases h : 0 ≤ Lib.indexByte s.data.toList 47
    · have hi : (Lib.indexByte s.data.toList 47).toNat < s.size := by
        have h2 := (Lib.indexByte_some (o := (Lib.indexByte s.data.toList 47).toNat) (by omega : Lib.indexByte s.data.toList 47 = ((Lib.indexByte s.data.toList 47).toNat : Nat))).1
        have h3 := (List.getElem?_eq_some_iff.1 h2).1
        simpa using h3
      have := cut_some0 s (Lib.indexByte s.data.toList 47).toNat w hs (by omega) hi
      unfold cutS; rw [if_pos h]; exact this
    · have h1 := Lib.indexByte_ge s.data.toList 47
      have := cut_none0 s w (by omega)
      unfold cutS; rw [if_neg h]
      have e : bs s.data.toList = s := by apply ByteArray.ext; simp [bs]
      simp only [e]; exact this
  generalize cutS s.data.toList = r at hF ⊢
  have HF := Lib.hid hF
  clear hF
  go_enter Tryd.func47, Tryd.ntmps47
  go_wp2_with fail
  refine (HF.out _).mono ?_
  rintro e w1 ⟨rfl, hb1⟩
  go_wp2
  go_ret3
  exact ⟨rfl, hb1⟩

theorem atoi_ok (s : ByteArray) (v : Int) (w : World) (hs : s.size ≤ 281474976710656) (h : Lib.atoiAll s.data.toList = .ok v) :
    Calls Tryd.prog 48 #[.string s] w fun e w' => e = .returned (.tuple #[.int .i64 v, .nilIface]) ∧ Below w.heap.size w w' := by
  refine (Tryd.strconv_Atoi_ok s (by omega) v h w).mono ?_
  rintro e w' ⟨rfl, rfl | ⟨t, rfl⟩⟩
  · exact ⟨rfl, Below.refl _ _⟩
  · exact ⟨rfl, Lib.bytesWorld_below _ _ _⟩

theorem atoi_no (s : ByteArray) (w : World) (hE : Env w) (hs : s.size ≤ 281474976710656) (h : ∀ v, Lib.atoiAll s.data.toList ≠ .ok v) (h2 : Lib.atoiAll s.data.toList ≠ .range) :
    Calls Tryd.prog 48 #[.string s] w fun e w' => (∃ x N, e = .returned (.tuple #[.int .i64 x, .iface 74 (.pointer (some ⟨N, 0, none⟩))])) ∧ Below w.heap.size w w' := by
  obtain ⟨tp, p, hv⟩ := hE.syn
  refine (Any.strconv_Atoi_syntax_var Tryd.laysC172 s hs ?_ tp p w hv).mono ?_
  · generalize Lib.atoiAll s.data.toList = r at h h2 ⊢
    cases r
    · exact absurd rfl (h _)
    · rfl
    · exact absurd rfl h2
  · rintro e w' ⟨N, rfl, _, _, hb⟩
    exact ⟨⟨_, N, rfl⟩, hb⟩

theorem atoi_bad (s : ByteArray) (w : World) (hE : Env w) (hs : s.size ≤ 281474976710656) (h : ∀ v, Lib.atoiAll s.data.toList ≠ .ok v) :
    Calls Tryd.prog 48 #[.string s] w fun e w' => (∃ x N, e = .returned (.tuple #[.int .i64 x, .iface 74 (.pointer (some ⟨N, 0, none⟩))])) ∧ Below w.heap.size w w' := by
  by_cases h2 : Lib.atoiAll s.data.toList = .range
  · obtain ⟨tq, q, hr⟩ := hE.rng
    refine (Tryd.strconv_Atoi_range_var s hs h2 tq q w hr).mono ?_
    rintro e w' ⟨N, rfl, _, _, hb⟩
    exact ⟨⟨_, N, rfl⟩, hb⟩
  · exact atoi_no s w hE hs h h2
end Go.Proofs.YtohnmffokichkaaDoor
