/-
  Contracts of the reader: the row of bytes of one kind, an error, a token that is passed.
-/
import Derived.Test.YtoaeceeookknnaaDoorLBytes
import Derived.Test.YtoaeceeookknnaaDoorLRatC
namespace Go.Proofs.YtoaeceeookknnaaDoor
open Go.RowKit Lx

theorem len_bytes (s : ByteArray) : s.data.toList.length = s.size := by simp
set_option maxRecDepth 100000 in
set_option maxHeartbeats 400000 in
theorem row_any (F : FuncId) (p : UInt8 → Bool) (hF : Says F p) (s : ByteArray) (i b : Nat) (w : World) (hA : At2 w b (.string s) (.int .i64 i)) (hi : i ≤ s.size) (hs : s.size ≤ 281474976710656) :
    Calls Tryd.prog 34 #[.pointer (some ⟨b, 0, none⟩), .func (.func F) #[] #[]] w fun e w' => e = .returned (.string (bs ((s.data.toList.drop i).takeWhile p))) ∧ ∃ n, w' = w.drewN n := by
  obtain ⟨c0, c1, f0, f1⟩ := hA
  obtain ⟨l, hl⟩ : ∃ l, l = s.data.toList.drop i := ⟨_, rfl⟩
  have hx : s.extract i s.size = bs l := by rw [hl]; apply ByteArray.ext; apply Array.ext'; rw [Lib.extract_to_end]; simp [bs]
  have K := Lib.hid (fun w => beginning_any F p hF (bs l) w (by rw [bs_size, hl, List.length_drop, len_bytes]; omega))
  rw [bs_data] at K
  rw [← hl]
  generalize l.takeWhile p = r at *
  have hiz : (i : Int) ≤ (s.size : Int) := by omega
  clear hF hl
  go_enter Tryd.func34, Tryd.ntmps34
  go_wp2_with fail
  go_quiet ((go_at_call 41; exact Calls.quiet_of_same (K.out _)))
  go_wp2
  go_ret
  exact ⟨rfl, _, rfl⟩

/-- What a panic of the reader's bears. -/
def failV (e : Int) (a : Nat) : List PanicEntry := [{ v := .iface 46 (.agg #[.int .i64 e, .int .i64 a]), recovered := false }]
theorem fail_any (s : ByteArray) (E : Int) (i b : Nat) (w : World) (hA : At2 w b (.string s) (.int .i64 i)) :
    Calls Tryd.prog 26 #[.pointer (some ⟨b, 0, none⟩), .int .i64 E] w fun e w' => e = .panicked (failV E i) ∧ w' = w := by
  obtain ⟨c0, c1, f0, f1⟩ := hA
  go_enter Tryd.func26, Tryd.ntmps26
  go_wp2
  exact bodyPost_panic rfl ⟨rfl, rfl⟩

theorem At2.set {w : World} {b : Nat} {x y : Value} (h : At2 w b x y) (z : Value) : At2 (w.setCell ⟨b, 1, none⟩ z) b x z := by
  obtain ⟨c0, c1, f0, f1⟩ := h
  exact ⟨by simp [go_sem, c0], by simp [go_sem, c1], by simp [go_sem, f0], by simp [go_sem, f1]⟩
def tokV (t : Tok) : Value := .agg #[.int .i64 t.k, .int .i64 t.a, .string (bs t.t), .int .i64 t.n, .int .i64 t.d]
set_option maxRecDepth 100000 in
set_option maxHeartbeats 400000 in
theorem pass_any (s x : ByteArray) (k a n d : Int) (t : ByteArray) (i b : Nat) (w : World) (hA : At2 w b (.string s) (.int .i64 i)) (hi : i ≤ s.size) (hx : i + x.size ≤ s.size) (hs : s.size ≤ 281474976710656) :
    Calls Tryd.prog 43 #[.pointer (some ⟨b, 0, none⟩), .string x, .agg #[.int .i64 k, .int .i64 a, .string t, .int .i64 n, .int .i64 d]] w fun e w' =>
      e = .returned (.agg #[.int .i64 k, .int .i64 i, .string t, .int .i64 n, .int .i64 d]) ∧ Kept b w w' ∧ At2 w' b (.string s) (.int .i64 (i + x.size : Nat)) := by
  have hb := hA.lt
  have HA := Lib.hid hA
  obtain ⟨c0, c1, f0, f1⟩ := hA
  go_enter Tryd.func43, Tryd.ntmps43
  go_wp2_with fail
  refine bodyPost_ret (v := .agg #[.int .i64 k, .int .i64 i, .string t, .int .i64 n, .int .i64 d]) (by simp [results, Tryd.results43, go_sem]) rfl ⟨rfl, ?_, ?_⟩
  · exact ((Kept.refl b w).setCell 1 none _).bel ((((Below.refl _ _).alloc (Nat.le_refl _) _).alloc (by simp) _))
  · refine At2.below (B := (w.setCell ⟨b, 1, none⟩ (Value.int IntKind.i64 ((i : Int) + (x.size : Int)))).heap.size) ?_ ((((Below.refl _ _).alloc (Nat.le_refl _) _).alloc (by simp) _)) (by simpa [World.setCell] using hb)
    have := HA.out.set (.int .i64 ((i : Int) + (x.size : Int)))
    rwa [show ((i + x.size : Nat) : Int) = (i : Int) + (x.size : Int) by omega]
end Go.Proofs.YtoaeceeookknnaaDoor
