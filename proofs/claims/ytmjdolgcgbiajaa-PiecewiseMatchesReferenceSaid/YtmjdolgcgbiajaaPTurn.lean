/-
  Contracts of isLeftLess and turn.
-/
import Derived.Test.YtmjdolgcgbiajaaPSl
import Derived.Deep.RegionHeld3
namespace Go.Proofs.Ytmjdolgcgbiajaa
open Go.RowKit Pw

/-- The lines of pieces. -/
structure LN where
  b : Int
  r : Int
  d : Int
def LN.V (l : LN) : Value := .agg #[.int .i64 l.b, .int .i64 l.r, .int .i64 l.d]
structure LN.Ok (l : LN) : Prop where
  b : l.b.natAbs ≤ 2000000000000
  r : l.r.natAbs ≤ 10000000
  d0 : 1 ≤ l.d
  d1 : l.d ≤ 10000
def LN.at (l : LN) (x : Int) : Rat := fr (l.b + l.r * x) l.d
theorem LN.Ok.mul {l : LN} (h : l.Ok) {x : Int} (h0 : 0 ≤ x) (h1 : x ≤ 100001) : (l.r * x).natAbs ≤ 10000000 * 100001 := mul_bd h.r (by omega)
theorem LN.call {l : LN} (h : l.Ok) {x : Int} (h0 : 0 ≤ x) (h1 : x ≤ 100001) (w : World) : Calls Try.prog 36 #[.agg #[.int .i64 l.b, .int .i64 l.r, .int .i64 l.d], .int .i64 x] w fun e w' =>
    e = .returned (.agg #[.int .i64 (qW (l.b + l.r * x) l.d), .int .i64 (qN (l.b + l.r * x) l.d), .int .i64 (qD (l.b + l.r * x) l.d)]) ∧ RowKit.Below w.heap.size w w' := by
  have hm := h.mul h0 h1
  have hb := h.b
  have h2 := h.d0
  have h3 := h.d1
  exact at_any l.b l.r l.d x w (by omega) (by omega) (by omega) (by omega) (by omega) (by omega)
/-- A stretch. -/
structure ST where
  f : Int
  u : Int
  l : LN
  r : LN
def ST.V (s : ST) : Value := .agg #[.int .i64 s.f, .int .i64 s.u, .int .i64 s.l.b, .int .i64 s.l.r, .int .i64 s.l.d, .int .i64 s.r.b, .int .i64 s.r.r, .int .i64 s.r.d]
def ST.lt (s : ST) (x : Int) : Bool := decide (s.l.at x < s.r.at x)
structure ST.Ok (s : ST) : Prop where
  f0 : 0 ≤ s.f
  fu : s.f < s.u
  u1 : s.u ≤ 100001
  l : s.l.Ok
  r : s.r.Ok

set_option maxRecDepth 100000 in
set_option maxHeartbeats 1000000 in
theorem left_raw (f u lb lr ld rb rr rd x a1 a2 a3 b1 b2 b3 : Int) (c : Bool) (w : World)
    (K1 : Hid (∀ w, Calls Try.prog 36 #[.agg #[.int .i64 lb, .int .i64 lr, .int .i64 ld], .int .i64 x] w fun e w' => e = .returned (.agg #[.int .i64 a1, .int .i64 a2, .int .i64 a3]) ∧ RowKit.Below w.heap.size w w'))
    (K2 : Hid (∀ w, Calls Try.prog 36 #[.agg #[.int .i64 rb, .int .i64 rr, .int .i64 rd], .int .i64 x] w fun e w' => e = .returned (.agg #[.int .i64 b1, .int .i64 b2, .int .i64 b3]) ∧ RowKit.Below w.heap.size w w'))
    (K3 : Hid (∀ w, Calls Try.prog 71 #[.agg #[.int .i64 a1, .int .i64 a2, .int .i64 a3], .agg #[.int .i64 b1, .int .i64 b2, .int .i64 b3]] w fun e w' => e = .returned (.bool c) ∧ RowKit.Below w.heap.size w w')) :
    Calls Try.prog 53 #[.agg #[.int .i64 f, .int .i64 u, .int .i64 lb, .int .i64 lr, .int .i64 ld, .int .i64 rb, .int .i64 rr, .int .i64 rd], .int .i64 x] w fun e w' => e = .returned (.bool c) ∧ RowKit.Below w.heap.size w w' := by
  go_enter Try.func53, Try.ntmps53
  go_wp2_with fail
  obtain ⟨W0, hW0⟩ : ∃ W0, W0 = w.alloc (.cells #[.int .i64 f, .int .i64 u, .int .i64 lb, .int .i64 lr, .int .i64 ld, .int .i64 rb, .int .i64 rr, .int .i64 rd] 68) := ⟨_, rfl⟩
  rw [← hW0]
  obtain ⟨c0, c1, c2, c3, c4, c5, c6, c7, _, _, _, _, _, _, _, _⟩ : At8 W0 w.heap.size (.int .i64 f) (.int .i64 u) (.int .i64 lb) (.int .i64 lr) (.int .i64 ld) (.int .i64 rb) (.int .i64 rr) (.int .i64 rd) := by rw [hW0]; exact At8.new w _ _ _ _ _ _ _ _ _
  have hz0 : w.heap.size < W0.heap.size := by rw [hW0]; simp
  have hB : RowKit.Below w.heap.size w W0 := by rw [hW0]; exact (by repeat' (first | (with_reducible refine Below.setCell ?_ ?_ _) | (with_reducible refine Below.alloc ?_ ?_ _) | (with_reducible refine Below.drew ?_) | (with_reducible refine below_drewN ?_ _) | (with_reducible exact Below.refl _ _) | omega | (simp; done) | (simp; omega)))
  have HB0 := Lib.hid hB
  clear hW0 hB
  have l2 := cell_bw hz0 c2
  have l3 := cell_bw hz0 c3
  have l4 := cell_bw hz0 c4
  have l5 := cell_bw hz0 c5
  have l6 := cell_bw hz0 c6
  have l7 := cell_bw hz0 c7
  clear c0 c1 c2 c3 c4 c5 c6 c7
  refine wp_region_bw mixed (by kernel_rfl) ?_
  repeat (go_big_quiet_step ((first | (with_reducible refine Calls.bw_of (K1.out _)) | (with_reducible refine Calls.bw_of (K2.out _)) | (with_reducible refine Calls.bw_of (K3.out _)))))
  refine wpQuiet_nil ?_
  intro W HW
  replace HW := bw_out HW
  go_wp2
  go_ret
  exact ⟨rfl, HB0.out.trans (HW.mono HB0.out.size)⟩
theorem left_any (s : ST) (x : Int) (w : World) (h : s.Ok) (h0 : 0 ≤ x) (h1 : x ≤ 100001) : Calls Try.prog 53 #[s.V, .int .i64 x] w fun e w' => e = .returned (.bool (s.lt x)) ∧ RowKit.Below w.heap.size w w' :=
  left_raw s.f s.u s.l.b s.l.r s.l.d s.r.b s.r.r s.r.d x _ _ _ _ _ _ _ w (fun w => LN.call h.l h0 h1 w) (fun w => LN.call h.r h0 h1 w)
    (fun w => isless_any _ _ _ _ w h.l.d0 (by have := h.l.d1; omega) h.r.d0 (by have := h.r.d1; omega))

set_option maxRecDepth 100000 in
set_option maxHeartbeats 1000000 in
theorem turnc_raw (f u lb lr ld rb rr rd i : Int) (c was : Bool) (B C : Nat) (w : World) (A : At8 w B (.int .i64 f) (.int .i64 u) (.int .i64 lb) (.int .i64 lr) (.int .i64 ld) (.int .i64 rb) (.int .i64 rr) (.int .i64 rd)) (hC : w.cell? ⟨C, 0, none⟩ = some (.bool was))
    (f0 : 0 ≤ f) (f1 : f ≤ 100001) (i0 : 0 ≤ i) (i1 : i ≤ 100001)
    (K : Hid (∀ w, Calls Try.prog 53 #[.agg #[.int .i64 f, .int .i64 u, .int .i64 lb, .int .i64 lr, .int .i64 ld, .int .i64 rb, .int .i64 rr, .int .i64 rd], .int .i64 (f + i)] w fun e w' => e = .returned (.bool c) ∧ RowKit.Below w.heap.size w w')) :
    Calls Try.prog 72 #[.int .i64 i, .pointer (some ⟨B, 0, none⟩), .pointer (some ⟨C, 0, none⟩)] w fun e w' => e = .returned (.bool (c != was)) ∧ RowKit.Below w.heap.size w w' := by
  have hb := A.lt
  have hc : C < w.heap.size := World.block_lt_of_cell? _ _ hC
  obtain ⟨c0, c1, c2, c3, c4, c5, c6, c7, _, _, _, _, _, _, _, _⟩ := A
  have l0 := cell_bw hb c0
  have l1 := cell_bw hb c1
  have l2 := cell_bw hb c2
  have l3 := cell_bw hb c3
  have l4 := cell_bw hb c4
  have l5 := cell_bw hb c5
  have l6 := cell_bw hb c6
  have l7 := cell_bw hb c7
  have l8 := cell_bw hc hC
  clear c0 c1 c2 c3 c4 c5 c6 c7 hC
  cases c <;> cases was
  all_goals
    go_enter Try.func72, Try.ntmps72
    go_wp2_with fail
    refine wp_region_bw mixed (by kernel_rfl) ?_
    repeat (go_big_quiet_step ((with_reducible refine Calls.bw_of (K.out _))))
    refine wpQuiet_nil ?_
    intro W HW
    replace HW := bw_out HW
    go_wp2
    go_ret
    exact ⟨rfl, HW⟩
theorem eg72 : ∀ args w, (callFunc 72 args).run Try.prog w = .ok (.enter 72 args) w := fun args w => by kernel_rfl

set_option maxRecDepth 100000 in
set_option maxHeartbeats 1000000 in
theorem turn_any (s : ST) (k : Nat) (w : World) (h : s.Ok) (hk : s.f + k ≤ s.u) (h0 : ∀ i : Nat, i < k → s.lt (s.f + i) = s.lt s.f) (h1 : ∀ i : Nat, k ≤ i → s.f + i < s.u → s.lt (s.f + i) ≠ s.lt s.f) :
    Calls Try.prog 54 #[s.V] w fun e w' => e = .returned (.int .i64 (s.f + k)) ∧ RowKit.Below w.heap.size w w' := by
  obtain ⟨n, hn⟩ : ∃ n : Nat, (n : Int) = s.u - s.f := ⟨(s.u - s.f).toNat, by have := h.fu; omega⟩
  have f0 := h.f0
  have f1 : s.f ≤ 100000 := by have := h.fu; have := h.u1; omega
  have u0 : 0 ≤ s.u := by have := h.fu; omega
  have u1 := h.u1
  have hn1 : n ≤ 100001 := by omega
  have KL := Lib.hid (fun w => left_any s s.f w h f0 (by omega))
  have KS : Hid (∀ (w : World) (B C : Nat), At8 w B (.int .i64 s.f) (.int .i64 s.u) (.int .i64 s.l.b) (.int .i64 s.l.r) (.int .i64 s.l.d) (.int .i64 s.r.b) (.int .i64 s.r.r) (.int .i64 s.r.d) → At1 w C (.bool (s.lt s.f)) →
      Calls Try.prog 58 #[.int .i64 n, .func (.func 72) #[] #[.pointer (some ⟨B, 0, none⟩), .pointer (some ⟨C, 0, none⟩)]] w fun e w' => e = .returned (.int .i64 k) ∧ RowKit.Below w.heap.size w w') := fun w B C hB hC =>
    search_any _ _ n k (fun i => s.lt (s.f + i) != s.lt s.f) w eg72 (by omega) (by omega)
      (fun W i hW hi => turnc_raw s.f s.u s.l.b s.l.r s.l.d s.r.b s.r.r s.r.d i _ _ B C W (hB.below hW hB.lt) (hC.below hW hC.lt).c0 f0 (by omega) (by omega) (by omega) (fun w => left_any s (s.f + i) w h (by omega) (by omega)))
      (fun i hi => by rw [h0 i hi]; simp) (fun i h2 h3 => by have := h1 i h2 (by omega); simpa using this)
  have HFK := Lib.hid (show 0 ≤ s.f + (k : Int) ∧ s.f + (k : Int) ≤ 100001 by omega)
  clear h0 h1 h hk
  obtain ⟨f, u, ⟨lb, lr, ld⟩, ⟨rb, rr, rd⟩⟩ := s
  simp only at *
  unfold ST.V at *
  simp only at *
  generalize ST.lt ⟨f, u, ⟨lb, lr, ld⟩, ⟨rb, rr, rd⟩⟩ f = was at *
  have HN := Lib.hid hn
  clear hn
  go_enter Try.func54, Try.ntmps54
  go_wp2_with fail
  refine (KL.out _).mono ?_
  rintro _ w1 ⟨rfl, hb⟩
  have A := (At8.new w (.int .i64 f) (.int .i64 u) (.int .i64 lb) (.int .i64 lr) (.int .i64 ld) (.int .i64 rb) (.int .i64 rr) (.int .i64 rd) 68).below hb (by simp)
  have HB := Lib.hid (((Below.refl _ w).alloc (Nat.le_refl _) (.cells #[.int .i64 f, .int .i64 u, .int .i64 lb, .int .i64 lr, .int .i64 ld, .int .i64 rb, .int .i64 rr, .int .i64 rd] 68)).trans (hb.mono (by simp)))
  have hz1 : w.heap.size < w1.heap.size := by have := hb.size; simp at this; omega
  clear hb
  have HA := Lib.hid A
  obtain ⟨c0, c1, c2, c3, c4, c5, c6, c7, _, _, _, _, _, _, _, _⟩ := A
  go_wp2_with fail
  clear c0 c1 c2 c3 c4 c5 c6 c7
  obtain ⟨W0, hW0⟩ : ∃ W0, W0 = w1.alloc (.cells #[.bool was] 4) := ⟨_, rfl⟩
  rw [← hW0]
  have A0 : At8 W0 w.heap.size (.int .i64 f) (.int .i64 u) (.int .i64 lb) (.int .i64 lr) (.int .i64 ld) (.int .i64 rb) (.int .i64 rr) (.int .i64 rd) := by rw [hW0]; exact HA.out.alloc hz1 _
  have B0 : At1 W0 w1.heap.size (.bool was) := by rw [hW0]; exact At1.new w1 _ _
  have hB : RowKit.Below w.heap.size w W0 := by rw [hW0]; exact (by repeat' (first | (with_reducible exact HB.out) | (with_reducible refine Below.setCell ?_ ?_ _) | (with_reducible refine Below.alloc ?_ ?_ _) | (with_reducible refine Below.drew ?_) | (with_reducible refine below_drewN ?_ _) | (with_reducible exact Below.refl _ _) | omega | (simp; done) | (simp; omega)))
  have HB0 := Lib.hid hB
  have hz0 : w.heap.size < W0.heap.size := A0.lt
  have KS2 : Hid (∀ p : Bw W0, Calls Try.prog 58 #[.int .i64 (u - f), .func (.func 72) #[] #[.pointer (some ⟨w.heap.size, 0, none⟩), .pointer (some ⟨w1.heap.size, 0, none⟩)]] p.w' fun e w' => e = .returned (.int .i64 k) ∧ RowKit.Below p.w'.heap.size p.w' w') := fun p => by
    have := KS.out p.w' w.heap.size w1.heap.size (A0.below p.h hz0) (B0.below p.h B0.lt)
    rw [HN.out] at this
    exact this
  obtain ⟨c0, c1, _, _, _, _, _, _, _, _, _, _, _, _, _, _⟩ := A0
  have l0 := cell_bw hz0 c0
  have l1 := cell_bw hz0 c1
  clear c0 c1 hW0 hB B0 HA HB hz1
  have hmf : ∀ (fn : Fn) (first cap : Array Value) (w : World), (Instr.makeFunc fn first cap).run Try.prog w = .ok (.func fn first cap) w := fun _ _ _ _ => rfl
  refine wp_region_bw mixed (by kernel_rfl) ?_
  repeat (go_big_quiet_step ((with_reducible refine Calls.bw_of (KS2.out _))))
  refine wpQuiet_nil ?_
  intro W HW
  replace HW := bw_out HW
  go_wp2
  go_ret
  have hfk := HFK.out
  exact ⟨ret_i64 (IntWalk.wrap64_in _ ⟨by omega, by omega⟩), HB0.out.trans (HW.mono HB0.out.size)⟩
end Go.Proofs.Ytmjdolgcgbiajaa
