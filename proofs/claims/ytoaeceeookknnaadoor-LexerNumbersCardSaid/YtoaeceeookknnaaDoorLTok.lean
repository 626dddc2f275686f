/-
  Contracts of word, sign, number, and token.
-/
import Derived.Test.YtoaeceeookknnaaDoorLSign
namespace Go.Proofs.YtoaeceeookknnaaDoor
open Go.RowKit Lx

/-- A box of a token. -/
def Box (w : World) (b : Nat) (x0 x1 x2 x3 x4 : Value) : Prop := (w.cell? ⟨b, 0, none⟩ = some x0 ∧ w.cell? ⟨b, 1, none⟩ = some x1 ∧ w.cell? ⟨b, 2, none⟩ = some x2 ∧ w.cell? ⟨b, 3, none⟩ = some x3 ∧ w.cell? ⟨b, 4, none⟩ = some x4) ∧
  w.frozen? ⟨b, 0, none⟩ = false ∧ w.frozen? ⟨b, 1, none⟩ = false ∧ w.frozen? ⟨b, 2, none⟩ = false ∧ w.frozen? ⟨b, 3, none⟩ = false ∧ w.frozen? ⟨b, 4, none⟩ = false
theorem Box.new (w : World) (x0 x1 x2 x3 x4 : Value) (T : Nat) : Box (w.alloc (.cells #[x0, x1, x2, x3, x4] T)) w.heap.size x0 x1 x2 x3 x4 := ⟨⟨by simp, by simp, by simp, by simp, by simp⟩, by simp, by simp, by simp, by simp, by simp⟩
theorem Box.of {w w1 : World} {b : Nat} {x0 x1 x2 x3 x4 : Value} (h : Box w b x0 x1 x2 x3 x4) (hb : w1.heap[b]? = w.heap[b]?) : Box w1 b x0 x1 x2 x3 x4 := by
  have c : ∀ o, w1.cell? ⟨b, o, none⟩ = w.cell? ⟨b, o, none⟩ := fun o => World.cell?_of_block (w := w) (a := ⟨b, o, none⟩) hb
  have f : ∀ o, w1.frozen? ⟨b, o, none⟩ = w.frozen? ⟨b, o, none⟩ := fun o => World.frozen?_of_block (w := w) (a := ⟨b, o, none⟩) hb
  unfold Box at h ⊢
  simp only [c, f]; exact h
theorem Kept.box {b r : Nat} {w w1 : World} {x0 x1 x2 x3 x4 : Value} (h : Kept b w w1) (hx : Box w r x0 x1 x2 x3 x4) (hr : r ≠ b) : Box w1 r x0 x1 x2 x3 x4 :=
  hx.of (h.block r (World.block_lt_of_cell? _ _ hx.1.1) hr)
theorem Kept.other {b r : Nat} {w w1 : World} (h : Kept b w w1) (hr : w.heap.size ≤ r) (o : Nat) (v : Value) : Kept b w (w1.setCell ⟨r, o, none⟩ v) :=
  ⟨h.os, h.tape, h.output, by simpa [World.setCell] using h.size, fun k hk hn => (Below.heap_setCell _ _ _ _ (by show k ≠ r; omega)).trans (h.block k hk hn)⟩
theorem Kept.other2 {b r : Nat} {w w1 : World} (h : Kept b w w1) (hr : w.heap.size ≤ r) (a : Addr) (ha : a.block = r) (v : Value) : Kept b w (w1.setCell a v) :=
  ⟨h.os, h.tape, h.output, by simpa [World.setCell] using h.size, fun k hk hn => (Below.heap_setCell _ _ _ _ (by rw [ha]; omega)).trans (h.block k hk hn)⟩
theorem At2.other {w : World} {b r : Nat} {x y : Value} (h : At2 w b x y) (hr : b ≠ r) (o : Nat) (v : Value) : At2 (w.setCell ⟨r, o, none⟩ v) b x y := by
  have hb : (w.setCell ⟨r, o, none⟩ v).heap[b]? = w.heap[b]? := Below.heap_setCell _ _ _ _ hr
  have c : ∀ o', (w.setCell ⟨r, o, none⟩ v).cell? ⟨b, o', none⟩ = w.cell? ⟨b, o', none⟩ := fun o' => World.cell?_of_block (w := w) (a := ⟨b, o', none⟩) hb
  have f : ∀ o', (w.setCell ⟨r, o, none⟩ v).frozen? ⟨b, o', none⟩ = w.frozen? ⟨b, o', none⟩ := fun o' => World.frozen?_of_block (w := w) (a := ⟨b, o', none⟩) hb
  obtain ⟨c0, c1, f0, f1⟩ := h
  exact ⟨(c 0).trans c0, (c 1).trans c1, (f 0).trans f0, (f 1).trans f1⟩
def zBox : Obj := .cells #[.int .i64 0, .int .i64 0, .string ⟨#[]⟩, .int .i64 0, .int .i64 0] 32
/-- How things stand within a method that makes a token: r.at is j, and the result's box is empty. -/
def St (b : Nat) (w0 : World) (s : ByteArray) (j : Nat) (w1 : World) : Prop := Kept b w0 w1 ∧ At2 w1 b (.string s) (.int .i64 j) ∧ Box w1 w0.heap.size (.int .i64 0) (.int .i64 0) (.string ⟨#[]⟩) (.int .i64 0) (.int .i64 0)
theorem St.start {b j : Nat} {w : World} {s : ByteArray} (h : At2 w b (.string s) (.int .i64 j)) : St b w s j (w.alloc zBox) :=
  ⟨Kept.of ((Below.refl _ _).alloc (Nat.le_refl _) _), h.bel ((Below.refl _ _).alloc (Nat.le_refl _) _), Box.new w _ _ _ _ _ _⟩
theorem St.kept {b j j' : Nat} {w0 w1 w2 : World} {s : ByteArray} (hb : b < w0.heap.size) (h : St b w0 s j w1) (k : Kept b w1 w2) (a : At2 w2 b (.string s) (.int .i64 j')) : St b w0 s j' w2 :=
  ⟨h.1.trans k, a, k.box h.2.2 (by omega)⟩
theorem St.bel {b j : Nat} {w0 w1 w2 : World} {s : ByteArray} (hb : b < w0.heap.size) (h : St b w0 s j w1) (k : RowKit.Below w1.heap.size w1 w2) : St b w0 s j w2 := h.kept hb (Kept.of k) (h.2.1.bel k)
/-- What was made is stored in the box. -/
theorem St.fin {b j : Nat} {w0 w1 : World} {s : ByteArray} (hb : b < w0.heap.size) (h : St b w0 s j w1) (v0 v1 v2 v3 v4 : Value) :
    Kept b w0 (((((w1.setCell ⟨w0.heap.size, 0, none⟩ v0).setCell ⟨w0.heap.size, 1, none⟩ v1).setCell ⟨w0.heap.size, 2, none⟩ v2).setCell ⟨w0.heap.size, 3, none⟩ v3).setCell ⟨w0.heap.size, 4, none⟩ v4) ∧
    At2 (((((w1.setCell ⟨w0.heap.size, 0, none⟩ v0).setCell ⟨w0.heap.size, 1, none⟩ v1).setCell ⟨w0.heap.size, 2, none⟩ v2).setCell ⟨w0.heap.size, 3, none⟩ v3).setCell ⟨w0.heap.size, 4, none⟩ v4) b (.string s) (.int .i64 j) :=
  ⟨((((h.1.other (Nat.le_refl _) _ _).other (Nat.le_refl _) _ _).other (Nat.le_refl _) _ _).other (Nat.le_refl _) _ _).other (Nat.le_refl _) _ _,
   ((((h.2.1.other (by omega) _ _).other (by omega) _ _).other (by omega) _ _).other (by omega) _ _).other (by omega) _ _⟩
/-- The text that lies in a source from a place on. -/
theorem row_word {s : ByteArray} {i b : Nat} {w : World} (hA : At2 w b (.string s) (.int .i64 i)) (hi : i ≤ s.size) (hs : s.size ≤ 281474976710656) {p : UInt8 → Bool} {F : FuncId} (hF : Says F p) {x : List UInt8} (hx : (s.data.toList.drop i).takeWhile p = x) :
    Calls Tryd.prog 34 #[.pointer (some ⟨b, 0, none⟩), .func (.func F) #[] #[]] w fun e w' => e = .returned (.string (bs x)) ∧ RowKit.Below w.heap.size w w' := by
  subst hx
  refine (row_any F p hF s i b w hA hi hs).mono ?_
  rintro _ _ ⟨rfl, n, rfl⟩
  exact ⟨rfl, below_drewN (Below.refl _ _) _⟩

set_option maxRecDepth 100000 in
set_option maxHeartbeats 800000 in
theorem word_ok (s : ByteArray) (i b : Nat) (w : World) (x : List UInt8) (hA : At2 w b (.string s) (.int .i64 i)) (hi : i ≤ s.size) (hs : s.size ≤ 281474976710656) (hx : (s.data.toList.drop i).takeWhile wrd = x) (hl : x.length ≤ 16) :
    Calls Tryd.prog 38 #[.pointer (some ⟨b, 0, none⟩)] w fun e w' => e = .returned (tokV ⟨1, i, x, 0, 0⟩) ∧ Kept b w w' ∧ At2 w' b (.string s) (.int .i64 (i + x.length : Nat)) := by
  have hb := hA.lt
  have hxs : i + x.length ≤ s.size := by
    have := tw_pre (p := wrd) (s.data.toList.drop i)
    rw [hx, List.length_drop, len_bytes] at this; omega
  have HS : Hid ((bs x).size = x.length) := bs_size x
  have d1 : decide ((16 : Int) < ((bs x).size : Int)) = false := by rw [HS.out]; simp; omega
  have d2 : decide (16 < (bs x).size) = false := by rw [HS.out]; simp; omega
  have HA := Lib.hid hA
  have HX := Lib.hid hx
  have KC := Lib.hid (fun w => clone_any (bs x) w (by rw [HS.out]; omega))
  have KP := Lib.hid (fun w hA => pass_any s (bs x) 1 0 0 0 (bs x) i b w hA hi (by rw [HS.out]; omega) hs)
  rw [HS.out] at KP
  clear hA hx
  have H1 := Lib.hid (St.start HA.out)
  go_enter Tryd.func38, Tryd.ntmps38
  go_wp2_with fail
  change Calls Tryd.prog 34 #[.pointer (some ⟨b, 0, none⟩), .func (.func 45) #[] #[]] (w.alloc zBox) fun e w' => _
  generalize w.alloc zBox = w1 at *
  have KR := Lib.hid (row_word H1.out.2.1 hi hs says_word HX.out)
  refine KR.out.mono ?_
  rintro _ w2 ⟨rfl, h2⟩
  have H2 := Lib.hid (St.bel hb H1.out h2)
  clear h2
  clear HS KR H1
  go_wp2_with fail
  refine (KC.out _).mono ?_
  rintro _ w3 ⟨rfl, h3⟩
  have H3 := Lib.hid (St.bel hb H2.out h3)
  clear h3 H2
  go_wp2_with fail
  have KQ := Lib.hid (KP.out _ H3.out.2.1)
  refine KQ.out.mono ?_
  rintro _ w4 ⟨rfl, h4, h5⟩
  have H4 := Lib.hid (St.kept hb H3.out h4 h5)
  clear h4 h5 H3 KQ
  obtain ⟨⟨c0, c1, c2, c3, c4⟩, f0, f1, f2, f3, f4⟩ := H4.out.2.2
  go_wp2_with fail

  refine bodyPost_ret (v := tokV ⟨1, i, x, 0, 0⟩) (by simp [results, Tryd.results38, go_sem, tokV, c0, c1, c2, c3, c4]) rfl ⟨rfl, ?_, ?_⟩
  · exact (H4.out.fin hb _ _ _ _ _).1
  · exact (H4.out.fin hb _ _ _ _ _).2
end Go.Proofs.YtoaeceeookknnaaDoor
