/-
  Contract of Parse.
-/
import Derived.Test.YtohnmffokichkaaDoorWalks7
namespace Go.Proofs.YtohnmffokichkaaDoor
open Go.RowKit

/-- What strings.Cut hands back at a slash. -/
def Cuts (s : ByteArray) (A B : List UInt8) (dv : Bool) : Prop := ∀ w : World, Calls Tryd.prog 47 #[.string s, .string ⟨#[47]⟩] w fun e w' =>
  e = .returned (.tuple #[.string (bs A), .string (bs B), .bool dv]) ∧ Below w.heap.size w w'

/-- What Parse makes of two integers. -/
def fin (s : ByteArray) (n d : Int) : Int × Int × Int := if (texR n d).2 = 0 ∧ (texR n d).1 = s.data.toList then (n, d, 0) else (0, 0, 8)
theorem bs_list (l : List UInt8) : (bs l).toList = l := by rw [Lib.toList_data]; simp [bs]
theorem fin_err {s : ByteArray} {n d : Int} (h : ¬ (texR n d).2 = 0) : fin s n d = (0, 0, 8) := by unfold fin; rw [if_neg (fun x => h x.1)]
theorem fin_other {s : ByteArray} {n d : Int} (h : (!(bs (texR n d).1).toList == s.toList) = true) : fin s n d = (0, 0, 8) := by
  unfold fin; rw [if_neg]
  intro x
  rw [bs_list, x.2, Lib.toList_data] at h
  simp at h
theorem fin_same {s : ByteArray} {n d : Int} (h0 : (texR n d).2 = 0) (h : (!(bs (texR n d).1).toList == s.toList) = false) : fin s n d = (n, d, 0) := by
  unfold fin; rw [if_pos]
  refine ⟨h0, ?_⟩
  rw [bs_list, Lib.toList_data] at h
  simpa using h

set_option maxRecDepth 100000 in
set_option maxHeartbeats 400000 in
theorem parse_bad1t (s : ByteArray) (A B : List UInt8) (w : World) (hE : Env w) (hC : Cuts s A B true) (hA : A.length ≤ 281474976710656) (h1 : ∀ v, Lib.atoiAll A ≠ .ok v) :
    Calls Tryd.prog 28 #[.string s] w fun e w' => e = .returned (.tuple #[.agg #[.int .i64 0, .int .i64 0], .int .i64 8]) ∧ Below w.heap.size w w' := by
  have HE := Lib.hid hE
  clear hE
  have H1 := Lib.hid h1
  clear h1
  go_enter Tryd.func28, Tryd.ntmps28
  go_wp2_with fail
  refine (hC _).mono ?_
  rintro e w1 ⟨rfl, hb1⟩
  have hz1 := hb1.size
  simp only [World.size_alloc] at hz1
  have A1 : At2 w1 w.heap.size (.int .i64 0) (.int .i64 0) := (At2.new w _ _ _).below hb1 (by simp)
  have HB1 : Below w.heap.size w w1 := ((Below.refl _ _).alloc (Nat.le_refl _) _).trans (hb1.mono (by simp))
  clear hb1
  obtain ⟨p0, p1, p2, p3⟩ := A1
  go_wp2_with fail
  refine (atoi_bad _ _ (HE.out.below HB1) (by rw [bs_size]; exact hA) H1.out).mono ?_
  rintro e w2 ⟨⟨x, N, rfl⟩, hb2⟩
  have A2 := (At2.mk p0 p1 p2 p3).below hb2 (by omega)
  have HBX : Below w.heap.size w w2 := HB1.trans (hb2.mono HB1.size)
  clear p0 p1 p2 p3 hb2 HB1
  obtain ⟨p0, p1, p2, p3⟩ := A2
  go_wp2
  exact bodyPost_ret (v := .tuple #[.agg #[.int .i64 0, .int .i64 0], .int .i64 8]) (by simp [results, Tryd.results28, go_sem, p0, p1]) rfl ⟨rfl, (by repeat' (first | exact HBX | refine Below.setCell ?_ (by first | (simp; done) | (simp; omega)) _ | refine below_drewN ?_ _ | refine Below.alloc ?_ (by first | (simp; done) | (simp; omega)) _))⟩

set_option maxRecDepth 100000 in
set_option maxHeartbeats 400000 in
theorem parse_bad2t (s : ByteArray) (A B : List UInt8) (n : Int) (w : World) (hE : Env w) (hC : Cuts s A B true) (hA : A.length ≤ 281474976710656) (hB : B.length ≤ 281474976710656) (h1 : Lib.atoiAll A = .ok n) (h2 : ∀ v, Lib.atoiAll B ≠ .ok v) :
    Calls Tryd.prog 28 #[.string s] w fun e w' => e = .returned (.tuple #[.agg #[.int .i64 0, .int .i64 0], .int .i64 8]) ∧ Below w.heap.size w w' := by
  have HE := Lib.hid hE
  clear hE
  have H1 := Lib.hid h1
  have H2 := Lib.hid h2
  clear h1 h2
  go_enter Tryd.func28, Tryd.ntmps28
  go_wp2_with fail
  refine (hC _).mono ?_
  rintro e w1 ⟨rfl, hb1⟩
  have hz1 := hb1.size
  simp only [World.size_alloc] at hz1
  have A1 : At2 w1 w.heap.size (.int .i64 0) (.int .i64 0) := (At2.new w _ _ _).below hb1 (by simp)
  have HB1 : Below w.heap.size w w1 := ((Below.refl _ _).alloc (Nat.le_refl _) _).trans (hb1.mono (by simp))
  clear hb1
  obtain ⟨p0, p1, p2, p3⟩ := A1
  go_wp2_with fail
  refine (atoi_ok _ n _ (by rw [bs_size]; exact hA) H1.out).mono ?_
  rintro e w2 ⟨rfl, hb2⟩
  have hz2 := hb2.size
  have A2 := (At2.mk p0 p1 p2 p3).below hb2 (by omega)
  have HB2 : Below w.heap.size w w2 := HB1.trans (hb2.mono HB1.size)
  clear p0 p1 p2 p3 hb2 HB1
  obtain ⟨p0, p1, p2, p3⟩ := A2
  go_wp2_with fail
  refine (atoi_bad _ _ (HE.out.below HB2) (by rw [bs_size]; exact hB) H2.out).mono ?_
  rintro e w3 ⟨⟨x, N, rfl⟩, hb3⟩
  have A3 := (At2.mk p0 p1 p2 p3).below hb3 (by omega)
  have HBX : Below w.heap.size w w3 := HB2.trans (hb3.mono HB2.size)
  clear p0 p1 p2 p3 hb3 HB2
  obtain ⟨p0, p1, p2, p3⟩ := A3
  go_wp2
  exact bodyPost_ret (v := .tuple #[.agg #[.int .i64 0, .int .i64 0], .int .i64 8]) (by simp [results, Tryd.results28, go_sem, p0, p1]) rfl ⟨rfl, (by repeat' (first | exact HBX | refine Below.setCell ?_ (by first | (simp; done) | (simp; omega)) _ | refine below_drewN ?_ _ | refine Below.alloc ?_ (by first | (simp; done) | (simp; omega)) _))⟩

set_option maxRecDepth 100000 in
set_option maxHeartbeats 400000 in
theorem parse_okt (s : ByteArray) (A B : List UInt8) (n d : Int) (w : World) (hE : Env w) (hC : Cuts s A B true) (hA : A.length ≤ 281474976710656) (hB : B.length ≤ 281474976710656) (h1 : Lib.atoiAll A = .ok n) (h2 : Lib.atoiAll B = .ok d) :
    Calls Tryd.prog 28 #[.string s] w fun e w' => e = .returned (.tuple #[.agg #[.int .i64 (fin s n d).1, .int .i64 (fin s n d).2.1], .int .i64 (fin s n d).2.2]) ∧ Below w.heap.size w w' := by
  have HE := Lib.hid hE
  clear hE
  have H1 := Lib.hid h1
  have bn := Lib.atoiAll_bounds h1
  clear h1
  have H2 := Lib.hid h2
  have bd := Lib.atoiAll_bounds h2
  clear h2
  go_enter Tryd.func28, Tryd.ntmps28
  go_wp2_with fail
  refine (hC _).mono ?_
  rintro e w1 ⟨rfl, hb1⟩
  have hz1 := hb1.size
  simp only [World.size_alloc] at hz1
  have A1 : At2 w1 w.heap.size (.int .i64 0) (.int .i64 0) := (At2.new w _ _ _).below hb1 (by simp)
  have HB1 : Below w.heap.size w w1 := ((Below.refl _ _).alloc (Nat.le_refl _) _).trans (hb1.mono (by simp))
  clear hb1
  obtain ⟨p0, p1, p2, p3⟩ := A1
  go_wp2_with fail
  refine (atoi_ok _ n _ (by rw [bs_size]; exact hA) H1.out).mono ?_
  rintro e w2 ⟨rfl, hb2⟩
  have hz2 := hb2.size
  have A2 := (At2.mk p0 p1 p2 p3).below hb2 (by omega)
  have HB2 : Below w.heap.size w w2 := HB1.trans (hb2.mono HB1.size)
  clear p0 p1 p2 p3 hb2 HB1
  obtain ⟨p0, p1, p2, p3⟩ := A2
  go_wp2_with fail
  refine (atoi_ok _ d _ (by rw [bs_size]; exact hB) H2.out).mono ?_
  rintro e w3 ⟨rfl, hb3⟩
  have hz3 := hb3.size
  have A3 := (At2.mk p0 p1 p2 p3).below hb3 (by omega)
  have HB3 : Below w.heap.size w w3 := HB2.trans (hb3.mono HB2.size)
  clear p0 p1 p2 p3 hb3 HB2
  obtain ⟨p0, p1, p2, p3⟩ := A3
  go_wp2_with fail
  refine (text_any n d _ ((HE.out.below HB3).below ((Below.refl _ _).alloc (Nat.le_refl _) _)) (by omega) (by omega) (by omega) (by omega)).mono ?_
  rintro e w4 ⟨rfl, hb4⟩
  have hz4 := hb4.size
  simp only [World.size_alloc] at hz4
  have hz5 := HB3.size
  have A4 := ((At2.mk p0 p1 p2 p3).alloc (by omega) _).below hb4 (by simp; omega)
  have C4 := (At2.new w3 (.int .i64 n) (.int .i64 d) 23).below hb4 (by simp)
  have HBX : Below w.heap.size w w4 := (HB3.alloc (by omega) _).trans (hb4.mono (by simp; omega))
  clear p0 p1 p2 p3 hb4 HB3
  obtain ⟨p0, p1, p2, p3⟩ := A4
  obtain ⟨p4, p5, p6, p7⟩ := C4
  go_wp2_with fail
  · rw [fin_other ‹_›]
    exact bodyPost_ret (v := .tuple #[.agg #[.int .i64 0, .int .i64 0], .int .i64 8]) (by simp [results, Tryd.results28, go_sem, p0, p1]) rfl ⟨rfl, (by repeat' (first | exact HBX | refine Below.setCell ?_ (by first | (simp; done) | (simp; omega)) _ | refine below_drewN ?_ _ | refine Below.alloc ?_ (by first | (simp; done) | (simp; omega)) _))⟩
  · rw [fin_same ‹_› ‹_›]
    exact bodyPost_ret (v := .tuple #[.agg #[.int .i64 n, .int .i64 d], .int .i64 0]) (by simp [results, Tryd.results28, go_sem, p0, p1]) rfl ⟨rfl, (by repeat' (first | exact HBX | refine Below.setCell ?_ (by first | (simp; done) | (simp; omega)) _ | refine below_drewN ?_ _ | refine Below.alloc ?_ (by first | (simp; done) | (simp; omega)) _))⟩
  · rw [fin_err ‹_›]
    exact bodyPost_ret (v := .tuple #[.agg #[.int .i64 0, .int .i64 0], .int .i64 8]) (by simp [results, Tryd.results28, go_sem, p0, p1]) rfl ⟨rfl, (by repeat' (first | exact HBX | refine Below.setCell ?_ (by first | (simp; done) | (simp; omega)) _ | refine below_drewN ?_ _ | refine Below.alloc ?_ (by first | (simp; done) | (simp; omega)) _))⟩

set_option maxRecDepth 100000 in
set_option maxHeartbeats 400000 in
theorem parse_bad1f (s : ByteArray) (A B : List UInt8) (w : World) (hE : Env w) (hC : Cuts s A B false) (hA : A.length ≤ 281474976710656) (h1 : ∀ v, Lib.atoiAll A ≠ .ok v) :
    Calls Tryd.prog 28 #[.string s] w fun e w' => e = .returned (.tuple #[.agg #[.int .i64 0, .int .i64 0], .int .i64 8]) ∧ Below w.heap.size w w' := by
  have HE := Lib.hid hE
  clear hE
  have H1 := Lib.hid h1
  clear h1
  go_enter Tryd.func28, Tryd.ntmps28
  go_wp2_with fail
  refine (hC _).mono ?_
  rintro e w1 ⟨rfl, hb1⟩
  have hz1 := hb1.size
  simp only [World.size_alloc] at hz1
  have A1 : At2 w1 w.heap.size (.int .i64 0) (.int .i64 0) := (At2.new w _ _ _).below hb1 (by simp)
  have HB1 : Below w.heap.size w w1 := ((Below.refl _ _).alloc (Nat.le_refl _) _).trans (hb1.mono (by simp))
  clear hb1
  obtain ⟨p0, p1, p2, p3⟩ := A1
  go_wp2_with fail
  refine (atoi_bad _ _ (HE.out.below HB1) (by rw [bs_size]; exact hA) H1.out).mono ?_
  rintro e w2 ⟨⟨x, N, rfl⟩, hb2⟩
  have A2 := (At2.mk p0 p1 p2 p3).below hb2 (by omega)
  have HBX : Below w.heap.size w w2 := HB1.trans (hb2.mono HB1.size)
  clear p0 p1 p2 p3 hb2 HB1
  obtain ⟨p0, p1, p2, p3⟩ := A2
  go_wp2
  exact bodyPost_ret (v := .tuple #[.agg #[.int .i64 0, .int .i64 0], .int .i64 8]) (by simp [results, Tryd.results28, go_sem, p0, p1]) rfl ⟨rfl, (by repeat' (first | exact HBX | refine Below.setCell ?_ (by first | (simp; done) | (simp; omega)) _ | refine below_drewN ?_ _ | refine Below.alloc ?_ (by first | (simp; done) | (simp; omega)) _))⟩

set_option maxRecDepth 100000 in
set_option maxHeartbeats 400000 in
theorem parse_okf (s : ByteArray) (A B : List UInt8) (n : Int) (w : World) (hE : Env w) (hC : Cuts s A B false) (hA : A.length ≤ 281474976710656) (h1 : Lib.atoiAll A = .ok n) :
    Calls Tryd.prog 28 #[.string s] w fun e w' => e = .returned (.tuple #[.agg #[.int .i64 (fin s n 1).1, .int .i64 (fin s n 1).2.1], .int .i64 (fin s n 1).2.2]) ∧ Below w.heap.size w w' := by
  have HE := Lib.hid hE
  clear hE
  have H1 := Lib.hid h1
  have bn := Lib.atoiAll_bounds h1
  clear h1
  go_enter Tryd.func28, Tryd.ntmps28
  go_wp2_with fail
  refine (hC _).mono ?_
  rintro e w1 ⟨rfl, hb1⟩
  have hz1 := hb1.size
  simp only [World.size_alloc] at hz1
  have A1 : At2 w1 w.heap.size (.int .i64 0) (.int .i64 0) := (At2.new w _ _ _).below hb1 (by simp)
  have HB1 : Below w.heap.size w w1 := ((Below.refl _ _).alloc (Nat.le_refl _) _).trans (hb1.mono (by simp))
  clear hb1
  obtain ⟨p0, p1, p2, p3⟩ := A1
  go_wp2_with fail
  refine (atoi_ok _ n _ (by rw [bs_size]; exact hA) H1.out).mono ?_
  rintro e w2 ⟨rfl, hb2⟩
  have hz2 := hb2.size
  have A2 := (At2.mk p0 p1 p2 p3).below hb2 (by omega)
  have HB2 : Below w.heap.size w w2 := HB1.trans (hb2.mono HB1.size)
  clear p0 p1 p2 p3 hb2 HB1
  obtain ⟨p0, p1, p2, p3⟩ := A2
  go_wp2_with fail
  refine (atoi_ok _ 1 _ (by decide) rfl).mono ?_
  rintro e w3 ⟨rfl, hb3⟩
  have hz3 := hb3.size
  have A3 := (At2.mk p0 p1 p2 p3).below hb3 (by omega)
  have HB3 : Below w.heap.size w w3 := HB2.trans (hb3.mono HB2.size)
  clear p0 p1 p2 p3 hb3 HB2
  obtain ⟨p0, p1, p2, p3⟩ := A3
  go_wp2_with fail
  refine (text_any n 1 _ ((HE.out.below HB3).below ((Below.refl _ _).alloc (Nat.le_refl _) _)) (by omega) (by omega) (by omega) (by omega)).mono ?_
  rintro e w4 ⟨rfl, hb4⟩
  have hz4 := hb4.size
  simp only [World.size_alloc] at hz4
  have hz5 := HB3.size
  have A4 := ((At2.mk p0 p1 p2 p3).alloc (by omega) _).below hb4 (by simp; omega)
  have C4 := (At2.new w3 (.int .i64 n) (.int .i64 1) 23).below hb4 (by simp)
  have HBX : Below w.heap.size w w4 := (HB3.alloc (by omega) _).trans (hb4.mono (by simp; omega))
  clear p0 p1 p2 p3 hb4 HB3
  obtain ⟨p0, p1, p2, p3⟩ := A4
  obtain ⟨p4, p5, p6, p7⟩ := C4
  go_wp2_with fail
  · rw [fin_other ‹_›]
    exact bodyPost_ret (v := .tuple #[.agg #[.int .i64 0, .int .i64 0], .int .i64 8]) (by simp [results, Tryd.results28, go_sem, p0, p1]) rfl ⟨rfl, (by repeat' (first | exact HBX | refine Below.setCell ?_ (by first | (simp; done) | (simp; omega)) _ | refine below_drewN ?_ _ | refine Below.alloc ?_ (by first | (simp; done) | (simp; omega)) _))⟩
  · rw [fin_same ‹_› ‹_›]
    exact bodyPost_ret (v := .tuple #[.agg #[.int .i64 n, .int .i64 1], .int .i64 0]) (by simp [results, Tryd.results28, go_sem, p0, p1]) rfl ⟨rfl, (by repeat' (first | exact HBX | refine Below.setCell ?_ (by first | (simp; done) | (simp; omega)) _ | refine below_drewN ?_ _ | refine Below.alloc ?_ (by first | (simp; done) | (simp; omega)) _))⟩
  · rw [fin_err ‹_›]
    exact bodyPost_ret (v := .tuple #[.agg #[.int .i64 0, .int .i64 0], .int .i64 8]) (by simp [results, Tryd.results28, go_sem, p0, p1]) rfl ⟨rfl, (by repeat' (first | exact HBX | refine Below.setCell ?_ (by first | (simp; done) | (simp; omega)) _ | refine below_drewN ?_ _ | refine Below.alloc ?_ (by first | (simp; done) | (simp; omega)) _))⟩

/-- What Parse gives. -/
def parR (s : ByteArray) : Int × Int × Int :=
  match Lib.atoiAll (cutS s.data.toList).1, Lib.atoiAll (if (cutS s.data.toList).2.2 = true then (cutS s.data.toList).2.1 else [49]) with
  | .ok n, .ok d => fin s n d
  | _, _ => (0, 0, 8)

theorem cutS_len (l : List UInt8) : (cutS l).1.length ≤ l.length ∧ (cutS l).2.1.length ≤ l.length := by
  unfold cutS
  split
  · exact ⟨by simp; omega, by simp⟩
  · exact ⟨Nat.le_refl _, Nat.zero_le _⟩

theorem parse_any (s : ByteArray) (w : World) (hE : Env w) (hs : s.size ≤ 281474976710656) :
    Calls Tryd.prog 28 #[.string s] w fun e w' =>
      e = .returned (.tuple #[.agg #[.int .i64 (parR s).1, .int .i64 (parR s).2.1], .int .i64 (parR s).2.2]) ∧ Below w.heap.size w w' := by
  have hl := cutS_len s.data.toList
  have hsz : s.data.toList.length = s.size := by simp
  have hC : Cuts s (cutS s.data.toList).1 (cutS s.data.toList).2.1 (cutS s.data.toList).2.2 := fun w => cut_any s w (by omega)
  unfold parR
  generalize cutS s.data.toList = r at hl hC ⊢
  obtain ⟨A, B, dv⟩ := r
  simp only at hl hC ⊢
  have hA : A.length ≤ 281474976710656 := by omega
  have hB : B.length ≤ 281474976710656 := by omega
  by_cases h1 : ∃ n, Lib.atoiAll A = .ok n
  · obtain ⟨n, h1⟩ := h1
    cases dv
    · have e : Lib.atoiAll [49] = .ok 1 := rfl
      have := parse_okf s A B n w hE hC hA h1
      simp only [Bool.false_eq_true, if_false, h1, e]
      exact this
    · simp only [if_true, h1]
      by_cases h2 : ∃ d, Lib.atoiAll B = .ok d
      · obtain ⟨d, h2⟩ := h2
        have := parse_okt s A B n d w hE hC hA hB h1 h2
        simp only [h2]
        exact this
      · have := parse_bad2t s A B n w hE hC hA hB h1 (fun v hv => h2 ⟨v, hv⟩)
        generalize Lib.atoiAll B = r at h2
        cases r
        · exact absurd ⟨_, rfl⟩ h2
        · exact this
        · exact this
  · have k : Calls Tryd.prog 28 #[.string s] w fun e w' => e = .returned (.tuple #[.agg #[.int .i64 0, .int .i64 0], .int .i64 8]) ∧ Below w.heap.size w w' := by
      cases dv
      · exact parse_bad1f s A B w hE hC hA (fun v hv => h1 ⟨v, hv⟩)
      · exact parse_bad1t s A B w hE hC hA (fun v hv => h1 ⟨v, hv⟩)
    generalize Lib.atoiAll A = r at h1
    cases r
    · exact absurd ⟨_, rfl⟩ h1
    · exact k
    · exact k
end Go.Proofs.YtohnmffokichkaaDoor
