/-
  Slices of pieces: how they lie in memory; contracts of endOf, sort.Search, indexAt.
-/
import Derived.Test.YtmjdolgcgbiajaaPPiece2
namespace Go.Proofs.Ytmjdolgcgbiajaa
open Go.RowKit Pw

/-- A list of pieces lies in a block, from a place on. -/
def AtP (w : World) (b off : Nat) (l : List RP) : Prop := ∀ (k : Nat) (h : k < l.length), w.cell? ⟨b, off + k * 5, none⟩ = some (.int .i64 l[k].f) ∧ w.cell? ⟨b, off + k * 5 + 1, none⟩ = some (.int .i64 l[k].vn) ∧
  w.cell? ⟨b, off + k * 5 + 2, none⟩ = some (.int .i64 l[k].vd) ∧ w.cell? ⟨b, off + k * 5 + 3, none⟩ = some (.int .i64 l[k].sn) ∧ w.cell? ⟨b, off + k * 5 + 4, none⟩ = some (.int .i64 l[k].sd)
/-- A slice reads as a list of pieces. -/
structure SlP (w : World) (p : Option Addr) (b off len : Nat) (l : List RP) : Prop where
  ln : l.length = len
  ptr : 0 < len → p = some ⟨b, off, none⟩
  cells : AtP w b off l
  lt : 0 < len → b < w.heap.size
  max : len ≤ 9223372036854775807
  num : ∀ s, s ∈ l → s.In
theorem SlP.below {w w1 : World} {p : Option Addr} {b off len : Nat} {l : List RP} (h : SlP w p b off len l) (hB : RowKit.Below w.heap.size w w1) : SlP w1 p b off len l :=
  ⟨h.ln, h.ptr, fun k hk => by
    have hb := h.lt (by have := h.ln; omega)
    obtain ⟨c0, c1, c2, c3, c4⟩ := h.cells k hk
    exact ⟨(hB.cell (p := ⟨b, off + k * 5, none⟩) hb).trans c0, (hB.cell (p := ⟨b, off + k * 5 + 1, none⟩) hb).trans c1, (hB.cell (p := ⟨b, off + k * 5 + 2, none⟩) hb).trans c2, (hB.cell (p := ⟨b, off + k * 5 + 3, none⟩) hb).trans c3, (hB.cell (p := ⟨b, off + k * 5 + 4, none⟩) hb).trans c4⟩,
    fun x => Nat.lt_of_lt_of_le (h.lt x) hB.size, h.max, h.num⟩
theorem SlP.nil (w : World) (p : Option Addr) : SlP w p 0 0 0 [] := ⟨rfl, fun h => by omega, fun k h => by simp at h, fun h => by omega, by omega, fun s h => by cases h⟩
theorem SlP.in64 {w : World} {p : Option Addr} {b off len : Nat} {l : List RP} (h : SlP w p b off len l) {k : Nat} (hk : k < l.length) : l[k].In := h.num _ (List.getElem_mem hk)
theorem SlP.bw {w : World} {b off len : Nat} {p : Option Addr} {l : List RP} (h : SlP w p b off len l) {k : Nat} (hk : k < l.length) : ∀ q : Bw w, q.w'.cell? ⟨b, off + k * 5, none⟩ = some (.int .i64 l[k].f) :=
  cell_bw (h.lt (by have := h.ln; omega)) (h.cells k hk).1

/-- The integer behind the last one of a piece. -/
def endP (l : List RP) (i : Nat) : Int := match l[i + 1]? with | some p => p.f | none => 100001

set_option maxRecDepth 100000 in
set_option maxHeartbeats 400000 in
theorem endof_any (l : List RP) (p : Option Addr) (b off cap len i : Nat) (w : World) (hS : SlP w p b off len l) (hi : i < 1000000) :
    Calls Try.prog 63 #[.slice p len cap, .int .i64 i] w fun e w' => e = .returned (.int .i64 (endP l i)) ∧ w' = w := by
  have hm := hS.max
  have hl := hS.ln
  obtain ⟨c, hc⟩ : ∃ c, c = endP l i := ⟨_, rfl⟩
  rw [← hc]
  by_cases h : i + 1 < len
  · have hk : i + 1 < l.length := by omega
    have E : Hid (c = l[i + 1].f) := by show _ = _; rw [hc]; unfold endP; rw [List.getElem?_eq_getElem hk]
    have c0 := (hS.cells (i + 1) hk).1
    have hp := hS.ptr (by omega)
    obtain ⟨x, hx⟩ : ∃ x, x = l[i + 1].f := ⟨_, rfl⟩
    rw [← hx] at c0 E
    have hz : (i : Int) + 1 < (len : Int) := by omega
    subst hp
    clear hc hS hl hx
    go_enter Try.func63, Try.ntmps63
    go_wp2
    go_ret
    exact ⟨ret_i64 E.out.symm, rfl⟩
  · have E : Hid (c = 100001) := by show _ = _; rw [hc]; unfold endP; rw [List.getElem?_eq_none (by omega)]
    have hz : ¬ (i : Int) + 1 < (len : Int) := by omega
    clear hc hS hl
    go_enter Try.func63, Try.ntmps63
    go_wp2
    go_ret
    exact ⟨ret_i64 E.out.symm, rfl⟩

set_option maxRecDepth 100000 in
set_option maxHeartbeats 2000000 in
/-- sort.Search: the number of places at which the answer is still false. -/
theorem search_any (g : Nat) (cb : Array Value) (n k : Nat) (p : Nat → Bool) (w : World) (eg : ∀ args w, (callFunc g args).run Try.prog w = .ok (.enter g args) w) (hsz : n < 4611686018427387904) (hk : k ≤ n)
    (hf : ∀ (W : World) (i : Nat), RowKit.Below w.heap.size w W → i < n → Calls Try.prog g (#[.int .i64 i] ++ cb) W fun e w' => e = .returned (.bool (p i)) ∧ RowKit.Below W.heap.size W w')
    (h0 : ∀ i, i < k → p i = false) (h1 : ∀ i, k ≤ i → i < n → p i = true) :
    Calls Try.prog 58 #[.int .i64 n, .func (.func g) #[] cb] w fun e w' => e = .returned (.int .i64 k) ∧ RowKit.Below w.heap.size w w' := by
  have HF := Lib.hid hf
  have H0 := Lib.hid h0
  have H1 := Lib.hid h1
  clear hf h0 h1
  go_enter Try.func58, Try.ntmps58
  go_wp2
  go_loopg [5, 6] n (fun kx s5 s6 wr => ∃ (lo hi : Nat), s5 = .int .i64 lo ∧ s6 = .int .i64 hi ∧ lo ≤ k ∧ k ≤ hi ∧ hi ≤ n ∧ hi - lo ≤ kx ∧ Hid (RowKit.Below w.heap.size w wr))
  case atStart => exact ⟨0, n, rfl, rfl, Nat.zero_le _, hk, Nat.le_refl _, by omega, Below.refl _ _⟩
  case round =>
    obtain ⟨lo, hi, rfl, rfl, hlk, hkh, hin, hg, HB⟩ := hrel
    by_cases hlt : lo < hi
    · have hc := HF.out _ ((lo + hi) / 2) HB.out (by omega)
      rw [show (((lo + hi) / 2 : Nat) : Int) = ((lo : Int) + (hi : Int)) / 2 by omega] at hc
      cases hp : p ((lo + hi) / 2) <;> rw [hp] at hc
      · have hlow : (lo + hi) / 2 < k := by
          rcases Nat.lt_or_ge ((lo + hi) / 2) k with h | h
          · exact h
          · exfalso; have := H1.out _ h (by omega); rw [hp] at this; cases this
        clear hp
        have HC := Lib.hid hc
        clear hc
        go_wp2_with (go_at_fn g; refine HC.out.mono ?_; rintro e w' ⟨rfl, hb⟩)
        go_roundg (hi - ((lo + hi) / 2 + 1))
        case measure => omega
        case rel => exact ⟨(lo + hi) / 2 + 1, hi, by rw [show ((lo : Int) + (hi : Int)) / 2 + 1 = (((lo + hi) / 2 + 1 : Nat) : Int) by omega], rfl, by omega, hkh, hin, Nat.le_refl _, HB.out.trans (hb.mono HB.out.size)⟩
      · have hhigh : k ≤ (lo + hi) / 2 := by
          rcases Nat.lt_or_ge ((lo + hi) / 2) k with h | h
          · exfalso; have := H0.out _ h; rw [hp] at this; cases this
          · exact h
        clear hp
        have HC := Lib.hid hc
        clear hc
        go_wp2_with (go_at_fn g; refine HC.out.mono ?_; rintro e w' ⟨rfl, hb⟩)
        go_roundg ((lo + hi) / 2 - lo)
        case measure => omega
        case rel => exact ⟨lo, (lo + hi) / 2, rfl, by rw [show ((lo : Int) + (hi : Int)) / 2 = (((lo + hi) / 2 : Nat) : Int) by omega], hlk, hhigh, by omega, Nat.le_refl _, HB.out.trans (hb.mono HB.out.size)⟩
    · obtain rfl : lo = k := by omega
      obtain rfl : hi = lo := by omega
      go_wp2
      go_ret
      exact ⟨rfl, HB.out⟩

/-! ### The index of a place -/
/-- The piece with this index is the one at a place. -/
def IsIx (l : List RP) (x : Int) (i : Nat) : Prop := i < l.length ∧ (∀ (j : Nat) (h : j < l.length), j ≤ i → l[j].f ≤ x) ∧ ∀ (j : Nat) (h : j < l.length), i < j → x < l[j].f

set_option maxRecDepth 100000 in
set_option maxHeartbeats 400000 in
theorem ixc_any (l : List RP) (p : Option Addr) (b off cap len B C i : Nat) (x : Int) (w : World) (hS : SlP w p b off len l) (hB : w.cell? ⟨B, 0, none⟩ = some (.slice p len cap)) (hC : w.cell? ⟨C, 0, none⟩ = some (.int .i64 x)) (hi : i < len) :
    Calls Try.prog 59 #[.int .i64 i, .pointer (some ⟨B, 0, none⟩), .pointer (some ⟨C, 0, none⟩)] w fun e w' => e = .returned (.bool (decide (x < (l[i]!).f))) ∧ RowKit.Below w.heap.size w w' := by
  have hm := hS.max
  have hk : i < l.length := by have := hS.ln; omega
  have c0 := (hS.cells i hk).1
  have hp := hS.ptr (by omega)
  rw [getElem!_pos l i hk]
  generalize l[i].f = y at *
  have hz : (i : Int) < (len : Int) := by omega
  subst hp
  clear hS
  go_enter Try.func59, Try.ntmps59
  go_wp2_with fail
  go_quiet (fail)
  go_wp2
  go_ret
  exact ⟨rfl, (by repeat' (first | (with_reducible refine Below.setCell ?_ ?_ _) | (with_reducible refine Below.alloc ?_ ?_ _) | (with_reducible refine Below.drew ?_) | (with_reducible refine below_drewN ?_ _) | (with_reducible exact Below.refl _ _) | omega | (simp; done) | (simp; omega)))⟩

theorem eg59 : ∀ args w, (callFunc 59 args).run Try.prog w = .ok (.enter 59 args) w := fun args w => by kernel_rfl
set_option maxRecDepth 100000 in
set_option maxHeartbeats 400000 in
theorem indexat_any (l : List RP) (p : Option Addr) (b off cap len i : Nat) (x : Int) (w : World) (hS : SlP w p b off len l) (hI : IsIx l x i) (hn : len ≤ 1000000) :
    Calls Try.prog 35 #[.slice p len cap, .int .i64 x] w fun e w' => e = .returned (.int .i64 i) ∧ RowKit.Below w.heap.size w w' := by
  have hm := hS.max
  have hl := hS.ln
  obtain ⟨W0, hW0⟩ : ∃ W0, W0 = (w.alloc (.cells #[.slice p len cap] 22)).alloc (.cells #[.int .i64 x] 3) := ⟨_, rfl⟩
  have A : At1 W0 w.heap.size (.slice p len cap) := by rw [hW0]; exact (At1.new w _ _).alloc (by simp) _
  have B : At1 W0 (w.heap.size + 1) (.int .i64 x) := by
    rw [hW0]; have := At1.new (w.alloc (.cells #[.slice p len cap] 22)) (.int .i64 x) 3; rwa [World.size_alloc] at this
  have hB : RowKit.Below w.heap.size w W0 := by rw [hW0]; exact (by repeat' (first | (with_reducible refine Below.setCell ?_ ?_ _) | (with_reducible refine Below.alloc ?_ ?_ _) | (with_reducible refine Below.drew ?_) | (with_reducible refine below_drewN ?_ _) | (with_reducible exact Below.refl _ _) | omega | (simp; done) | (simp; omega)))
  have hz0 : w.heap.size + 1 < W0.heap.size := by rw [hW0]; simp
  have K := search_any 59 #[.pointer (some ⟨w.heap.size, 0, none⟩), .pointer (some ⟨w.heap.size + 1, 0, none⟩)] len (i + 1) (fun j => decide (x < (l[j]!).f)) W0 eg59 (by omega) (by have := hI.1; omega)
    (fun W j hW hj => ixc_any l p b off cap len w.heap.size (w.heap.size + 1) j x W ((hS.below hB).below hW) (A.below hW (by omega)).c0 (B.below hW hz0).c0 hj)
    (fun j hj => by rw [getElem!_pos l j (by have := hI.1; omega)]; exact decide_eq_false (by have := hI.2.1 j (by have := hI.1; omega) (by omega); omega))
    (fun j h1 h2 => by rw [getElem!_pos l j (by omega)]; exact decide_eq_true (hI.2.2 j (by omega) (by omega)))
  rw [hW0] at K
  have HK := Lib.hid K
  have HB := Lib.hid hB
  rw [hW0] at HB
  have c0 : ((w.alloc (.cells #[.slice p len cap] 22)).alloc (.cells #[.int .i64 x] 3)).cell? ⟨w.heap.size, 0, none⟩ = some (.slice p len cap) := by rw [← hW0]; exact A.c0
  have hi : i < 1000000 := by have := hI.1; omega
  clear K hB A B hW0 hz0 hS hI W0 hl
  go_enter Try.func35, Try.ntmps35
  go_wp2_with fail
  refine HK.out.mono ?_
  rintro _ w1 ⟨rfl, hb⟩
  go_wp2
  go_ret
  exact ⟨ret_i64 (by omega), HB.out.trans (hb.mono HB.out.size)⟩
end Go.Proofs.Ytmjdolgcgbiajaa
