/-
  The contract of the reference's Same.
-/
import Derived.Test.YtoaeceeookknnaaDoorLHead
import Derived.Deep.RegionHeld3
namespace Go.Proofs.YtoaeceeookknnaaDoor
open Go.RowKit Lx

/-- One token, field by field. -/
def tokEq (t u : Tok) : Bool := decide (t.k = u.k) && decide (t.a = u.a) && decide (t.t = u.t) && decide (t.n = u.n) && decide (t.d = u.d)
theorem tokEq_iff {t u : Tok} : tokEq t u = true ↔ t = u := by
  unfold tokEq
  simp only [Bool.and_eq_true, decide_eq_true_eq]
  constructor
  · rintro ⟨⟨⟨⟨h1, h2⟩, h3⟩, h4⟩, h5⟩
    cases t; cases u; simp_all
  · rintro rfl; simp
/-- Are they the same, but for offsets that are greater by a number? -/
def sameL (a b : List Tok) (by_ : Int) : Prop := b = a.map (mov by_)
theorem cells_at {w : World} {p : Option Addr} {b off len : Nat} {l : List Tok} (h : SlT w p b off len l) {k : Nat} (hk : k < l.length) :
    w.cell? ⟨b, off + k * 5, none⟩ = some (.int .i64 l[k].k) ∧ w.cell? ⟨b, off + k * 5 + 1, none⟩ = some (.int .i64 l[k].a) ∧ w.cell? ⟨b, off + k * 5 + 2, none⟩ = some (.string (bs l[k].t)) ∧ w.cell? ⟨b, off + k * 5 + 3, none⟩ = some (.int .i64 l[k].n) ∧ w.cell? ⟨b, off + k * 5 + 4, none⟩ = some (.int .i64 l[k].d) := h.cells k hk
theorem hb_k {b n m : Nat} (h : b < n) (k : n ≤ m) : b < m := by omega
set_option maxRecDepth 100000 in
set_option maxHeartbeats 3000000 in
theorem same_yes (A B : List Tok) (m : Int) (p p2 : Option Addr) (b off cap len b2 off2 cap2 len2 : Nat) (w : World) (hS : SlT w p b off len A) (hS2 : SlT w p2 b2 off2 len2 B) (hm : 0 ≤ m ∧ m ≤ 1000000) (hA : ∀ t ∈ A, 0 ≤ t.a ∧ t.a ≤ 1000000) (hE : B = A.map (mov m)) :
    Calls Tryd.prog 13 #[.slice p len cap, .slice p2 len2 cap2, .int .i64 m] w fun e w' => e = .returned (.bool true) ∧ RowKit.Below w.heap.size w w' := by
  have hl := hS.ln
  have hl2 := hS2.ln
  have hlen : len = len2 := by rw [← hl, ← hl2, hE, List.length_map]
  subst hlen
  have HS := Lib.hid hS
  have HS2 := Lib.hid hS2
  have HA := Lib.hid hA
  have HE := Lib.hid hE
  have HL := Lib.hid hl
  have HL2 := Lib.hid hl2
  have hmx := hS.max
  clear hS hS2 hA hE hl hl2
  go_enter Tryd.func13, Tryd.ntmps13
  go_wp2_with fail
  go_loopg [7] len (fun g s7 wr => ∃ k : Nat, s7 = .int .i64 k ∧ k ≤ len ∧ len - k ≤ g ∧ Hid (RowKit.Below w.heap.size w wr))
  case atStart => exact ⟨0, rfl, by omega, by omega, Below.refl _ _⟩
  case round =>
    obtain ⟨k, rfl, hk, hkg, HB⟩ := hrel
    by_cases hlt : k < len
    · have hltz : (k : Int) < (len : Int) := by omega
      have hkA : k < A.length := by rw [HL.out]; exact hlt
      have hkB : k < B.length := by rw [HL2.out]; exact hlt
      have hp := HS.out.ptr (by omega)
      have hp2 := HS2.out.ptr (by omega)
      obtain ⟨a0, a1, a2, a3, a4⟩ := cells_at (HS.out.below HB.out HS.out.lt) hkA
      obtain ⟨d0, d1, d2, d3, d4⟩ := cells_at (HS2.out.below HB.out HS2.out.lt) hkB
      have hbs := hb_k (HS.out.lt (by omega)) HB.out.size
      have hbs2 := hb_k (HS2.out.lt (by omega)) HB.out.size
      have hAk := HA.out _ (List.getElem_mem hkA)
      have hBk : B[k] = mov m A[k] := by
        have h := HE.out
        subst h
        exact List.getElem_map _
      rw [hBk] at d0 d1 d2 d3 d4
      unfold mov at d0 d1 d2 d3 d4
      generalize A[k] = t at *
      obtain ⟨tk, ta, tt, tn, td⟩ := t
      simp only at a0 a1 a2 a3 a4 d0 d1 d2 d3 d4 hAk
      clear hBk hkA hkB
      subst hp hp2
      go_wp2_with fail
      have hq := Box.new wr (.int .i64 tk) (.int .i64 (ta + m)) (.string (bs tt)) (.int .i64 tn) (.int .i64 td) 32
      obtain ⟨⟨g0, g1, g2, g3, g4⟩, -⟩ := hq
      have hB2 := (Below.refl wr.heap.size wr).alloc (Nat.le_refl _) (.cells #[.int .i64 tk, .int .i64 (ta + m), .string (bs tt), .int .i64 tn, .int .i64 td] 32)
      replace d0 := (hB2.cell (p := ⟨b2, off2 + k * 5, none⟩) hbs2).trans d0
      replace d1 := (hB2.cell (p := ⟨b2, off2 + k * 5 + 1, none⟩) hbs2).trans d1
      replace d2 := (hB2.cell (p := ⟨b2, off2 + k * 5 + 2, none⟩) hbs2).trans d2
      replace d3 := (hB2.cell (p := ⟨b2, off2 + k * 5 + 3, none⟩) hbs2).trans d3
      replace d4 := (hB2.cell (p := ⟨b2, off2 + k * 5 + 4, none⟩) hbs2).trans d4
      have HB2 := Lib.hid (HB.out.trans (hB2.mono HB.out.size))
      clear hB2 a0 a1 a2 a3 a4
      generalize wr.alloc (.cells #[.int .i64 tk, .int .i64 (ta + m), .string (bs tt), .int .i64 tn, .int .i64 td] 32) = W at *
      go_quiet (fail)
      go_wp2_with fail
      go_roundg (len - (k + 1))
      case measure => omega
      case rel => exact ⟨k + 1, by go_num, by omega, by omega, below_drewN HB2.out _⟩
    · have hltz : ¬ (k : Int) < (len : Int) := by omega
      go_wp2_with fail
      go_ret
      exact ⟨rfl, HB.out⟩
theorem lex_at {l : List UInt8} {ts : List Tok} (h : lex Vh l = .ok ts) : ∀ t ∈ ts, 0 ≤ t.a ∧ t.a ≤ 1000000 := by
  intro t ht
  obtain ⟨j, hj, rfl⟩ := List.getElem_of_mem ht
  unfold lex at h
  split at h
  · cases h
  · have := lx_at _ _ _ _ h j hj
    omega
theorem mov_zero (l : List Tok) : l = l.map (mov 0) := by
  have : mov 0 = id := by funext t; unfold mov; simp
  rw [this, List.map_id]
theorem res_at (R : Res) {l : List UInt8} (h : lex Vh l = R) : ∀ t ∈ R.tk, 0 ≤ t.a ∧ t.a ≤ 1000000 := by
  cases R with
  | ok ts => exact lex_at h
  | er e a => intro t ht; cases ht
end Go.Proofs.YtoaeceeookknnaaDoor
