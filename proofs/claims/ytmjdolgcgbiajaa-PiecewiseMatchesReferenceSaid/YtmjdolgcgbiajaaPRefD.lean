/-
  Contracts of the reference implementation of layer 5: Piece, Value, Same, Reduced.
-/
import Derived.Test.YtmjdolgcgbiajaaPRefC
import Derived.Test.YtmjdolgcgbiajaaPSl
import Derived.Test.YtmjdolgcgbiajaaPFence
namespace Go.Proofs.Ytmjdolgcgbiajaa
open Go.RowKit Pw

/-! ### A piece in its box -/
def PcB (W : World) (b : Nat) (p : RP) : Prop := W.heap[b]? = some (.cells #[.int .i64 p.f, .int .i64 p.vn, .int .i64 p.vd, .int .i64 p.sn, .int .i64 p.sd] 51 (0, 0))
theorem PcB.all {W : World} {b : Nat} {p : RP} (h : PcB W b p) : W.cell? ⟨b, 0, none⟩ = some (.int .i64 p.f) ∧ W.cell? ⟨b, 1, none⟩ = some (.int .i64 p.vn) ∧ W.cell? ⟨b, 2, none⟩ = some (.int .i64 p.vd) ∧ W.cell? ⟨b, 3, none⟩ = some (.int .i64 p.sn) ∧ W.cell? ⟨b, 4, none⟩ = some (.int .i64 p.sd) := by
  unfold PcB at h
  refine ⟨?_, ?_, ?_, ?_, ?_⟩ <;> simp [World.cell?, h]
theorem PcB.fz {W : World} {b : Nat} {p : RP} (h : PcB W b p) : W.frozen? ⟨b, 0, none⟩ = false ∧ W.frozen? ⟨b, 1, none⟩ = false ∧ W.frozen? ⟨b, 2, none⟩ = false ∧ W.frozen? ⟨b, 3, none⟩ = false ∧ W.frozen? ⟨b, 4, none⟩ = false := by
  unfold PcB at h
  refine ⟨?_, ?_, ?_, ?_, ?_⟩ <;> simp [World.frozen?, h]
theorem PcB.below {W W' : World} {b : Nat} {p : RP} (h : PcB W b p) (k : RowKit.Below W.heap.size W W') : PcB W' b p := (k.block b (Array.getElem?_eq_some_iff.1 h).1).trans h
theorem PcB.lt {W : World} {b : Nat} {p : RP} (h : PcB W b p) : b < W.heap.size := (Array.getElem?_eq_some_iff.1 h).1
def putP (W : World) (b : Nat) (p : RP) : World := ((((W.setCell ⟨b, 0, none⟩ (.int .i64 p.f)).setCell ⟨b, 1, none⟩ (.int .i64 p.vn)).setCell ⟨b, 2, none⟩ (.int .i64 p.vd)).setCell ⟨b, 3, none⟩ (.int .i64 p.sn)).setCell ⟨b, 4, none⟩ (.int .i64 p.sd)
theorem PcB.put {W : World} {b : Nat} {p : RP} (h : PcB W b p) (q : RP) : PcB (putP W b q) b q := by
  unfold PcB putP at *
  exact heap_setCell_same _ _ _ _ _ _ (heap_setCell_same _ _ _ _ _ _ (heap_setCell_same _ _ _ _ _ _ (heap_setCell_same _ _ _ _ _ _ (heap_setCell_same _ _ _ _ _ _ h))))
theorem putP_other (W : World) {b k : Nat} (p : RP) (h : k ≠ b) : (putP W b p).heap[k]? = W.heap[k]? := by
  unfold putP
  rw [heap_setCell_other _ _ _ _ h, heap_setCell_other _ _ _ _ h, heap_setCell_other _ _ _ _ h, heap_setCell_other _ _ _ _ h, heap_setCell_other _ _ _ _ h]
theorem putP_below {W : World} {B b : Nat} (p : RP) (h : B ≤ b) : RowKit.Below B W (putP W b p) := by
  unfold putP
  exact (((((Below.refl _ W).setCell h _).setCell h _).setCell h _).setCell h _).setCell h _

/-! ### Piece -/
def pcR (d : RP) : List RP → Int → RP
  | [], _ => d
  | p :: t, x => if p.f ≤ x then pcR p t x else pcR d t x
theorem pcR_append {x : Int} : ∀ {d : RP} {l m : List RP}, pcR d (l ++ m) x = pcR (pcR d l x) m x
  | _, [], _ => rfl
  | d, p :: t, m => by
    rw [List.cons_append, pcR, pcR]
    split <;> exact pcR_append
theorem pcR_take {l : List RP} {d : RP} {x : Int} {k : Nat} (hk : k < l.length) : pcR d (l.take (k + 1)) x = if l[k].f ≤ x then l[k] else pcR d (l.take k) x := by
  rw [List.take_add_one, List.getElem?_eq_getElem hk, pcR_append]
  rfl
theorem pcR_pa {x : Int} : ∀ {d : RP} {l : List RP}, toAP (pcR d l x) = pa (toAP d) (l.map toAP) x
  | _, [] => rfl
  | d, p :: t => by
    rw [pcR, List.map_cons, pa]
    show _ = if p.f ≤ x then _ else _
    split <;> exact pcR_pa
theorem pcR_mem {x : Int} : ∀ {d : RP} {l : List RP}, pcR d l x = d ∨ pcR d l x ∈ l
  | _, [] => .inl rfl
  | d, p :: t => by
    rw [pcR]
    split
    · rcases pcR_mem (x := x) (d := p) (l := t) with h | h
      · rw [h]; exact .inr (by simp)
      · exact .inr (by simp [h])
    · rcases pcR_mem (x := x) (d := d) (l := t) with h | h
      · exact .inl h
      · exact .inr (by simp [h])
/-- The piece that the reference finds. -/
def pcX (l : List RP) (x : Int) : RP := pcR (l.headD ⟨0, 0, 0, 0, 0⟩) l x
theorem pcX_mem {l : List RP} {x : Int} (h : 0 < l.length) : pcX l x ∈ l := by
  cases l with
  | nil => simp at h
  | cons p t =>
    unfold pcX
    rcases pcR_mem (x := x) (d := p) (l := p :: t) with e | e
    · rw [List.headD_cons, e]; simp
    · exact e
theorem pcX_AA {l : List RP} {x : Int} (h : 0 < l.length) : toAP (pcX l x) = pA (l.map toAP) x := by
  cases l with
  | nil => simp at h
  | cons p t => unfold pcX pA; rw [pcR_pa]; rfl

set_option maxRecDepth 100000 in
set_option maxHeartbeats 2000000 in
theorem rpiece_any (l : List RP) (p : Option Addr) (b off cap len : Nat) (x : Int) (w : World) (hS : SlP w p b off len l) (h0 : 0 < len) :
    Calls Try.prog 44 #[.slice p len cap, .int .i64 x] w fun e w' => e = .returned (pcX l x).V ∧ RowKit.Below w.heap.size w w' := by
  have HS := Lib.hid hS
  have hm := hS.max
  have hl := hS.ln
  have hp := hS.ptr h0
  have hb := hS.lt h0
  obtain ⟨y0, y1, y2, y3, y4⟩ := hS.cells 0 (by omega)
  obtain ⟨d, hd⟩ : ∃ d, d = l[0]'(by omega) := ⟨_, rfl⟩
  rw [← hd] at y0 y1 y2 y3 y4
  obtain ⟨P, hP⟩ : ∃ P, P = pcX l x := ⟨_, rfl⟩
  have hX : P = pcR d l x := by
    rw [hP]
    cases l with
    | nil => simp at hl; omega
    | cons q t => rw [hd]; rfl
  rw [← hP]
  rw [Nat.zero_mul, Nat.add_zero] at y0 y1 y2 y3 y4
  have hz0 : (0 : Int) < (len : Int) := by omega
  have HX := Lib.hid hX
  have HL := Lib.hid hl
  subst hp
  clear hd hX hl hS hP
  go_enter Try.func44, Try.ntmps44
  go_wp2_with fail
  go_loopg [6] len (fun q s6 wr => ∃ k : Nat, s6 = .int .i64 k ∧ k ≤ len ∧ len - k ≤ q ∧ Hid (RowKit.Below w.heap.size w wr) ∧ Hid (PcB wr (w.heap.size + 1) (pcR d (l.take k) x)) ∧ Hid (∃ z, PcB wr w.heap.size z))
  case atStart =>
    refine ⟨0, rfl, by omega, by omega, (show RowKit.Below w.heap.size w _ from (by repeat' (first | (with_reducible refine Below.setCell ?_ ?_ _) | (with_reducible refine Below.alloc ?_ ?_ _) | (with_reducible refine Below.drew ?_) | (with_reducible refine below_drewN ?_ _) | (with_reducible exact Below.refl _ _) | omega | (simp; done) | (simp; omega)))), ?_, ⟨⟨0, 0, 0, 0, 0⟩, ?_⟩⟩
    · show PcB _ _ _
      unfold PcB
      have := World.alloc_heap_new (w.alloc (.cells #[.int .i64 0, .int .i64 0, .int .i64 0, .int .i64 0, .int .i64 0] 51)) (.cells #[.int .i64 d.f, .int .i64 d.vn, .int .i64 d.vd, .int .i64 d.sn, .int .i64 d.sd] 51)
      rwa [World.size_alloc] at this
    · unfold PcB
      rw [Below.heap_alloc _ _ _ (by simp)]
      exact World.alloc_heap_new w _
  case round =>
    obtain ⟨k, rfl, hk, hkq, HB, HP, HZ⟩ := hrel
    clear y0 y1 y2 y3 y4
    by_cases hlt : k < len
    case neg =>
      obtain rfl : k = len := by omega
      have hltz : ¬ (k : Int) < (k : Int) := by omega
      obtain ⟨z, hZ⟩ := HZ.out
      have hP := HP.out
      rw [show l.take k = l from by rw [← HL.out]; exact List.take_length, ← HX.out] at hP
      obtain ⟨c0, c1, c2, c3, c4⟩ := hP.all
      obtain ⟨d0, d1, d2, d3, d4⟩ := hZ.all
      obtain ⟨f0, f1, f2, f3, f4⟩ := hZ.fz
      clear hP hZ
      go_wp2
      exact bodyPost_ret (v := P.V) (by simp [results, Try.results44, go_sem, RP.V, d0, d1, d2, d3, d4]) rfl ⟨rfl, (by repeat' (first | (with_reducible exact HB.out) | (with_reducible refine Below.setCell ?_ ?_ _) | (with_reducible refine Below.alloc ?_ ?_ _) | (with_reducible refine Below.drew ?_) | (with_reducible refine below_drewN ?_ _) | (with_reducible exact Below.refl _ _) | omega | (simp; done) | (simp; omega)))⟩
    case pos =>
      have hltz : (k : Int) < (len : Int) := by omega
      have hkl : k < l.length := by rw [HL.out]; exact hlt
      have HS1 := Lib.hid (HS.out.below HB.out)
      obtain ⟨x0, x1, x2, x3, x4⟩ := HS1.out.cells k hkl
      have hT := pcR_take (d := d) (x := x) hkl
      obtain ⟨X, hX⟩ : ∃ X, X = l[k] := ⟨_, rfl⟩
      rw [← hX] at x0 x1 x2 x3 x4 hT
      have HT := Lib.hid hT
      clear hX hT
      obtain ⟨f0, f1, f2, f3, f4⟩ := HP.out.fz
      obtain ⟨c0, c1, c2, c3, c4⟩ := HP.out.all
      have hzw := HP.out.lt
      by_cases hle : X.f ≤ x
      · go_wp2_with fail
        go_roundg (len - (k + 1))
        case measure => omega
        case rel =>
          refine ⟨k + 1, by go_num, by omega, by omega, HB.out.trans (putP_below X (by omega)), ?_, ?_⟩
          · show PcB _ _ _
            rw [HT.out, if_pos hle]
            exact HP.out.put X
          · obtain ⟨z, hZ⟩ := HZ.out
            exact ⟨z, (putP_other _ _ (by omega)).trans hZ⟩
      · go_wp2_with fail
        go_roundg (len - (k + 1))
        case measure => omega
        case rel =>
          refine ⟨k + 1, by go_num, by omega, by omega, HB.out, ?_, HZ.out⟩
          show PcB _ _ _
          rw [HT.out, if_neg (by omega)]
          exact HP.out
end Go.Proofs.Ytmjdolgcgbiajaa
