/-
  Contract of Below.
-/
import Derived.Test.YtmjdolgcgbiajaaPLeast
namespace Go.Proofs.Ytmjdolgcgbiajaa
open Go.RowKit Go.Shelf Pw

attribute [local go_sem] Oper.semAt_some

open Classical in
noncomputable def belV (f g : List RP) (lo hi : Int) : Int × Bool × Int := if VR f ∧ VR g ∧ 0 ≤ lo ∧ lo ≤ hi ∧ hi ≤ 100000 then ((belR (AA f) (AA g) lo hi).1, (belR (AA f) (AA g) lo hi).2, 0) else (0, false, 1)
/-- The world behind the beginning of Below: the range, and the three results in boxes. -/
def belW (w : World) (lo hi : Int) : World :=
  (((w.alloc (.cells #[.int .i64 lo, .int .i64 hi] 26)).alloc (.cells #[.int .i64 0] 3)).alloc (.cells #[.bool false] 4)).alloc (.cells #[.int .i64 0] 29)
/-- The three results in their boxes. -/
structure Rs (W : World) (n : Nat) (x : Int) (b : Bool) (e : Int) : Prop where
  r6 : W.heap[n + 1]? = some (.cells #[.int .i64 x] 3 (0, 0))
  r7 : W.heap[n + 1 + 1]? = some (.cells #[.bool b] 4 (0, 0))
  r8 : W.heap[n + 1 + 1 + 1]? = some (.cells #[.int .i64 e] 29 (0, 0))
theorem Rs.cells {W : World} {n : Nat} {x e : Int} {b : Bool} (h : Rs W n x b e) : W.cell? ⟨n + 1, 0, none⟩ = some (.int .i64 x) ∧ W.cell? ⟨n + 1 + 1, 0, none⟩ = some (.bool b) ∧ W.cell? ⟨n + 1 + 1 + 1, 0, none⟩ = some (.int .i64 e) := by
  refine ⟨?_, ?_, ?_⟩
  · simp [World.cell?, h.r6]
  · simp [World.cell?, h.r7]
  · simp [World.cell?, h.r8]
theorem Rs.fz {W : World} {n : Nat} {x e : Int} {b : Bool} (h : Rs W n x b e) : W.frozen? ⟨n + 1, 0, none⟩ = false ∧ W.frozen? ⟨n + 1 + 1, 0, none⟩ = false ∧ W.frozen? ⟨n + 1 + 1 + 1, 0, none⟩ = false := by
  refine ⟨?_, ?_, ?_⟩
  · simp [World.frozen?, h.r6]
  · simp [World.frozen?, h.r7]
  · simp [World.frozen?, h.r8]
theorem Rs.lt {W : World} {n : Nat} {x e : Int} {b : Bool} (h : Rs W n x b e) : n + 3 < W.heap.size := (Array.getElem?_eq_some_iff.1 h.r8).1
theorem Rs.below {W W' : World} {n : Nat} {x e : Int} {b : Bool} (h : Rs W n x b e) (k : RowKit.Below W.heap.size W W') : Rs W' n x b e :=
  ⟨(k.block _ (by have := h.lt; omega)).trans h.r6, (k.block _ (by have := h.lt; omega)).trans h.r7, (k.block _ (by have := h.lt; omega)).trans h.r8⟩
theorem Rs.ownFrom {β : Type} {n B : Nat} {x e : Int} {b : Bool} : OwnFrom B (fun (_ : β) W => Rs W n x b e) := fun s X Y row h hg hr =>
  ⟨(blk_own _ _ rfl).from B s X Y row h.r6 hg hr, (blk_own _ _ rfl).from B s X Y row h.r7 hg hr, (blk_own _ _ rfl).from B s X Y row h.r8 hg hr⟩
def putR (W : World) (n : Nat) (x : Int) (b : Bool) (e : Int) : World := ((W.setCell ⟨n + 1, 0, none⟩ (.int .i64 x)).setCell ⟨n + 1 + 1, 0, none⟩ (.bool b)).setCell ⟨n + 1 + 1 + 1, 0, none⟩ (.int .i64 e)
theorem Rs.put {W : World} {n : Nat} {x e : Int} {b : Bool} (h : Rs W n x b e) (x' : Int) (b' : Bool) (e' : Int) : Rs (putR W n x' b' e') n x' b' e' := by
  unfold putR
  refine ⟨?_, ?_, ?_⟩
  · rw [heap_setCell_other _ _ _ _ (by show n + 1 ≠ n + 1 + 1 + 1; omega), heap_setCell_other _ _ _ _ (by show n + 1 ≠ n + 1 + 1; omega)]
    exact heap_setCell_same _ _ _ _ _ _ h.r6
  · rw [heap_setCell_other _ _ _ _ (by show n + 1 + 1 ≠ n + 1 + 1 + 1; omega)]
    refine heap_setCell_same _ _ 0 #[.bool b] _ _ ?_
    rw [heap_setCell_other _ _ _ _ (by show n + 1 + 1 ≠ n + 1; omega)]
    exact h.r7
  · refine heap_setCell_same _ _ 0 #[.int .i64 e] _ _ ?_
    rw [heap_setCell_other _ _ _ _ (by show n + 1 + 1 + 1 ≠ n + 1 + 1; omega), heap_setCell_other _ _ _ _ (by show n + 1 + 1 + 1 ≠ n + 1; omega)]
    exact h.r8
theorem putR_below {W : World} {n B : Nat} {x e : Int} {b : Bool} (h : B ≤ n) : RowKit.Below B W (putR W n x b e) := by
  unfold putR
  exact (((Below.refl _ W).setCell (by show B ≤ n + 1; omega) _).setCell (by show B ≤ n + 1 + 1; omega) _).setCell (by show B ≤ n + 1 + 1 + 1; omega) _
theorem putR_keeps {W : World} {n : Nat} {x e : Int} {b : Bool} : KeepsOthers W (putR W n x b e) := ((KeepsOthers.setCell _ _ _).trans (KeepsOthers.setCell _ _ _)).trans (KeepsOthers.setCell _ _ _)
theorem belW_is (w : World) (lo hi : Int) : (belW w lo hi).heap.size = w.heap.size + 4 ∧ RowKit.Below w.heap.size w (belW w lo hi) ∧ (belW w lo hi).heap[w.heap.size]? = some (.cells #[.int .i64 lo, .int .i64 hi] 26) ∧ Rs (belW w lo hi) w.heap.size 0 false 0 := by
  unfold belW
  refine ⟨by simp, (by repeat' (first | (with_reducible refine Below.setCell ?_ ?_ _) | (with_reducible refine Below.alloc ?_ ?_ _) | (with_reducible refine Below.drew ?_) | (with_reducible refine below_drewN ?_ _) | (with_reducible exact Below.refl _ _) | omega | (simp; done) | (simp; omega))), ?_, ?_, ?_, ?_⟩
  · rw [Below.heap_alloc _ _ _ (by simp; omega), Below.heap_alloc _ _ _ (by simp; omega), Below.heap_alloc _ _ _ (by simp)]
    exact World.alloc_heap_new w _
  · rw [Below.heap_alloc _ _ _ (by simp), Below.heap_alloc _ _ _ (by simp)]
    have := World.alloc_heap_new (w.alloc (.cells #[.int .i64 lo, .int .i64 hi] 26)) (.cells #[.int .i64 0] 3)
    rwa [World.size_alloc] at this
  · rw [Below.heap_alloc _ _ _ (by simp)]
    have := World.alloc_heap_new ((w.alloc (.cells #[.int .i64 lo, .int .i64 hi] 26)).alloc (.cells #[.int .i64 0] 3)) (.cells #[.bool false] 4)
    rwa [World.size_alloc, World.size_alloc] at this
  · have := World.alloc_heap_new (((w.alloc (.cells #[.int .i64 lo, .int .i64 hi] 26)).alloc (.cells #[.int .i64 0] 3)).alloc (.cells #[.bool false] 4)) (.cells #[.int .i64 0] 29)
    rwa [World.size_alloc, World.size_alloc, World.size_alloc] at this
/-- The range in its box. -/
theorem rng_cells {W : World} {n : Nat} {lo hi : Int} (h : W.heap[n]? = some (.cells #[.int .i64 lo, .int .i64 hi] 26 (0, 0))) : W.cell? ⟨n, 0, none⟩ = some (.int .i64 lo) ∧ W.cell? ⟨n, 1, none⟩ = some (.int .i64 hi) := by
  refine ⟨?_, ?_⟩ <;> simp [World.cell?, h]

set_option maxRecDepth 100000 in
set_option maxHeartbeats 1000000 in
theorem below_bad (f g : List RP) (pf pg : Option Addr) (bf of cf lf bg og cg lg : Nat) (lo hi : Int) (w : World) (hS : SlP w pf bf of lf f) (hS' : SlP w pg bg og lg g) (b1 b2 : Bool) (hv : vR f = b1) (hv' : vR g = b2)
    (hx : b1 = false ∨ b1 = true ∧ b2 = false ∨ b1 = true ∧ b2 = true ∧ lo < 0 ∨ b1 = true ∧ b2 = true ∧ ¬ lo < 0 ∧ hi < lo ∨ b1 = true ∧ b2 = true ∧ ¬ lo < 0 ∧ ¬ hi < lo ∧ 100000 < hi) : Calls Try.prog 23 #[.slice pf lf cf, .slice pg lg cg, .agg #[.int .i64 lo, .int .i64 hi]] w fun e w' =>
    e = .returned (.tuple #[.int .i64 0, .bool false, .int .i64 1]) ∧ RowKit.Below w.heap.size w w' := by
  have K := Lib.hid (fun w' (h : RowKit.Below w.heap.size w w') => valid_sl f pf bf of cf lf w' (hS.below h))
  have K' := Lib.hid (fun w' (h : RowKit.Below w.heap.size w w') => valid_sl g pg bg og cg lg w' (hS'.below h))
  rw [hv] at K
  rw [hv'] at K'
  clear hS hv hS' hv'
  obtain ⟨z0, zB, z1, zR⟩ := belW_is w lo hi
  go_enter Try.func23, Try.ntmps23
  go_wp2_with fail
  obtain ⟨W0, hW0⟩ : ∃ W0, W0 = (((w.alloc (.cells #[.int .i64 lo, .int .i64 hi] 26)).alloc (.cells #[.int .i64 0] 3)).alloc (.cells #[.bool false] 4)).alloc (.cells #[.int .i64 0] 29) := ⟨_, rfl⟩
  rw [← hW0]
  rw [show belW w lo hi = W0 from hW0.symm] at z0 zB z1 zR
  clear hW0
  refine (K.out W0 zB).mono ?_
  rintro _ w1 ⟨rfl, hb⟩
  have hz1 : w.heap.size < W0.heap.size := by omega
  have zR1 := zR.below hb
  have z11 : w1.heap[w.heap.size]? = _ := (hb.block _ hz1).trans z1
  have HB := Lib.hid (zB.trans (hb.mono zB.size))
  clear hb zR z1 zB
  obtain ⟨r0, r1⟩ := rng_cells z11
  obtain ⟨c6, c7, c8⟩ := zR1.cells
  obtain ⟨f6, f7, f8⟩ := zR1.fz
  have Z := Lib.hid (And.intro zR1 z11)
  have hz11 : w.heap.size < w1.heap.size := (Array.getElem?_eq_some_iff.1 z11).1
  clear zR1 z11
  obtain rfl | ⟨rfl, rfl⟩ | ⟨rfl, rfl, h0⟩ | ⟨rfl, rfl, h0, h1⟩ | ⟨rfl, rfl, h0, h1, h2⟩ := hx
  case inl =>
    go_wp2
    exact bodyPost_ret (v := .tuple #[.int .i64 0, .bool false, .int .i64 1]) (by simp [results, Try.results23, go_sem, c6, c7, c8]) rfl ⟨rfl, (by repeat' (first | (with_reducible exact HB.out) | (with_reducible refine Below.setCell ?_ ?_ _) | (with_reducible refine Below.alloc ?_ ?_ _) | (with_reducible refine Below.drew ?_) | (with_reducible refine below_drewN ?_ _) | (with_reducible exact Below.refl _ _) | omega | (simp; done) | (simp; omega)))⟩
  all_goals
    go_wp2_with fail
    refine (K'.out _ HB.out).mono ?_
    rintro _ w2 ⟨rfl, hb⟩
    have HB2 := Lib.hid (HB.out.trans (hb.mono HB.out.size))
    clear r0 r1 c6 c7 c8 f6 f7 f8
    obtain ⟨r0, r1⟩ := rng_cells ((hb.block _ hz11).trans Z.out.2)
    obtain ⟨c6, c7, c8⟩ := (Z.out.1.below hb).cells
    obtain ⟨f6, f7, f8⟩ := (Z.out.1.below hb).fz
    clear hb
    go_wp2
    exact bodyPost_ret (v := .tuple #[.int .i64 0, .bool false, .int .i64 1]) (by simp [results, Try.results23, go_sem, c6, c7, c8]) rfl ⟨rfl, (by repeat' (first | (with_reducible exact HB2.out) | (with_reducible refine Below.setCell ?_ ?_ _) | (with_reducible refine Below.alloc ?_ ?_ _) | (with_reducible refine Below.drew ?_) | (with_reducible refine below_drewN ?_ _) | (with_reducible exact Below.refl _ _) | omega | (simp; done) | (simp; omega)))⟩
theorem putR_heap {W : World} {n D : Nat} {x e : Int} {b : Bool} (h : n + 3 < D) : (putR W n x b e).heap[D]? = W.heap[D]? := by
  unfold putR
  rw [heap_setCell_other _ _ _ _ (by show D ≠ n + 1 + 1 + 1; omega), heap_setCell_other _ _ _ _ (by show D ≠ n + 1 + 1; omega), heap_setCell_other _ _ _ _ (by show D ≠ n + 1; omega)]
theorem Rs.obj {W : World} {n D : Nat} {x e : Int} {b : Bool} {o : Obj} (h : Rs W n x b e) (hD : n + 3 < D) : Rs (W.putObj D o) n x b e :=
  ⟨(World.putObj_heap_other (by omega)).trans h.r6, (World.putObj_heap_other (by omega)).trans h.r7, (World.putObj_heap_other (by omega)).trans h.r8⟩

set_option maxRecDepth 100000 in
set_option maxHeartbeats 4000000 in
theorem below_yes (f g : List RP) (pf pg : Option Addr) (bf of cf lf bg og cg lg : Nat) (lo hi : Int) (w : World) (hS : SlP w pf bf of lf f) (hS' : SlP w pg bg og lg g) (hf : VR f) (hg : VR g) (h0 : ¬ lo < 0) (h1 : ¬ hi < lo) (h2 : ¬ 100000 < hi) :
    Calls Try.prog 23 #[.slice pf lf cf, .slice pg lg cg, .agg #[.int .i64 lo, .int .i64 hi]] w fun e w' => e = .returned (.tuple #[.int .i64 (belR (AA f) (AA g) lo hi).1, .bool (belR (AA f) (AA g) lo hi).2, .int .i64 0]) ∧ RowKit.Below w.heap.size w w' := by
  obtain ⟨N, hN⟩ : ∃ N : Nat, N = 100001 := ⟨_, rfl⟩
  have HN := Lib.hid hN
  clear hN
  have HS := Lib.hid hS
  have HS' := Lib.hid hS'
  have HVf := Lib.hid hf
  have HVg := Lib.hid hg
  have K := Lib.hid (fun m w' (h : RowKit.Below w.heap.size w w') => (callsIn_wide (n := m)).2 (valid_sl f pf bf of cf lf w' (hS.below h)))
  have K' := Lib.hid (fun m w' (h : RowKit.Below w.heap.size w w') => (callsIn_wide (n := m)).2 (valid_sl g pg bg og cg lg w' (hS'.below h)))
  rw [vR_iff.2 hf] at K
  rw [vR_iff.2 hg] at K'
  have KS := Lib.hid (fun m w => (callsIn_wide (n := m)).2 (stretches_any pf pg lf lg cf cg lo hi w))
  clear hS hS' hf hg
  have d0 : decide (lo < 0) = false := decide_eq_false h0
  have d1 : decide (hi < lo) = false := decide_eq_false h1
  have d2 : decide (100000 < hi) = false := decide_eq_false h2
  have HN0 := Lib.hid (show 0 ≤ lo ∧ lo ≤ hi ∧ hi ≤ 100000 from ⟨by omega, by omega, by omega⟩)
  clear h0 h1 h2
  obtain ⟨R1, hR1⟩ : ∃ R1, R1 = (belR (AA f) (AA g) lo hi).1 := ⟨_, rfl⟩
  obtain ⟨R2, hR2⟩ : ∃ R2, R2 = (belR (AA f) (AA g) lo hi).2 := ⟨_, rfl⟩
  rw [← hR1, ← hR2]
  have HR := Lib.hid (And.intro hR1 hR2)
  clear hR1 hR2
  obtain ⟨z0, zB, z1, zR⟩ := belW_is w lo hi
  refine (callsIn_wide (n := 6)).1 ?_
  refine callsIn_of_wp_marks Try.func23 rfl trivial ?_ rfl
  simp only [Try.ntmps23, List.size_toArray, List.length_cons, List.length_nil, Nat.reduceAdd, Nat.reduceSub, Array.replicate_succ, Array.replicate_zero, List.push_toArray, List.append_toArray, List.nil_append, List.cons_append]
  have hfn : ∀ k, Fence.wide.fn k = True := fun _ => rfl
  have hdp : Fence.wide.depth.isSome = false := rfl
  gi_wp2_with fail
  obtain ⟨W0, hW0⟩ : ∃ W0, W0 = (((w.alloc (.cells #[.int .i64 lo, .int .i64 hi] 26)).alloc (.cells #[.int .i64 0] 3)).alloc (.cells #[.bool false] 4)).alloc (.cells #[.int .i64 0] 29) := ⟨_, rfl⟩
  rw [← hW0]
  rw [show belW w lo hi = W0 from hW0.symm] at z0 zB z1 zR
  clear hW0
  refine (K.out _ W0 zB).mono ?_
  rintro _ w1 ⟨rfl, hb⟩
  have hz1 : w.heap.size < W0.heap.size := by omega
  have zR1 := zR.below hb
  have z11 : w1.heap[w.heap.size]? = _ := (hb.block _ hz1).trans z1
  have HB1 := Lib.hid (zB.trans (hb.mono zB.size))
  clear hb zR z1 zB hz1 z0
  obtain ⟨r0, r1⟩ := rng_cells z11
  gi_wp2_with fail
  refine (K'.out _ _ HB1.out).mono ?_
  rintro _ w2 ⟨rfl, hb⟩
  have HB2 := Lib.hid (HB1.out.trans (hb.mono HB1.out.size))
  have zR2 := zR1.below hb
  have z12 : w2.heap[w.heap.size]? = _ := (hb.block _ (Array.getElem?_eq_some_iff.1 z11).1).trans z11
  clear hb HB1 r0 r1 zR1 z11
  obtain ⟨r0, r1⟩ := rng_cells z12
  gi_wp2_with fail
  refine (KS.out _ _).mono ?_
  rintro _ w4 ⟨rfl, hw4⟩
  clear r0 r1
  gi_wp2_with fail
  obtain ⟨hz4, hb4, x2, x3, x1⟩ := stW_is w2 pf pg lf lg cf cg lo hi
  have HB4 := Lib.hid (HB2.out.trans (hb4.mono HB2.out.size))
  have zR4 := zR2.below hb4
  obtain ⟨W4, hW4⟩ : ∃ W4, W4 = stW w2 pf pg lf lg cf cg lo hi := ⟨_, rfl⟩
  rw [← hW4] at hz4 x1 x2 x3 HB4 zR4 ⊢
  have hn0 : w.heap.size + 3 < w2.heap.size := zR2.lt
  have hRm : Rm w W4 w.heap.size (w2.heap.size + 1 + 1) w2.heap.size (w2.heap.size + 1) lo hi pf pg lf lg cf cg := ⟨x1, x2, x3, HB4.out⟩
  have hIt : ItMem W4 w.heap.size (w2.heap.size + 1 + 1) w2.heap.size (w2.heap.size + 1) lo hi f g pf pg bf bg of og lf lg cf cg :=
    ⟨by simp [World.cell?, x1], by simp [World.cell?, x1], by simp [World.cell?, x2], by simp [World.cell?, x3], HS.out.below HB4.out, HS'.out.below HB4.out, HS.out.lt, HS'.out.lt⟩
  clear hW4 hw4 hb4 x1 x2 x3 K K' KS zR2 z12
  have hN0 := HN0.out
  have hN := HN.out
  have hlen := strs_len f g hi N lo
  refine wpIn_rangeFunc_ownH (F := Fence.wide) rfl (by omega) (gf := 62) (lb := #[.pointer (some ⟨w2.heap.size + 1 + 1, 0, none⟩), .pointer (some ⟨w2.heap.size, 0, none⟩), .pointer (some ⟨w2.heap.size + 1, 0, none⟩)]) rfl trivial (enters_of Try.func62 (by kernel_rfl) rfl)
    (iter_stops (6 - 1) w.heap.size (w2.heap.size + 1 + 1) w2.heap.size (w2.heap.size + 1) lo hi f g pf pg bf bg of og lf lg cf cg N W4 hIt (by omega) HVf.out HVg.out (by omega) (by omega) (by omega) (by omega))
    (fun h k => KpB.trans h k) (fun W l o o' hl h ho hw => ⟨belowK_b (w := W4) (by omega) W l o o' hl h ho hw, fun b hb => World.putObj_heap_other (by omega)⟩) (Below.refl _ _) (fun _ => rfl)
    (fun pre W => (∀ t, t ∈ pre → (fix t).u ≤ hit (fix t)) ∧ Rs W w.heap.size 0 false 0 ∧ Rm w W w.heap.size (w2.heap.size + 1 + 1) w2.heap.size (w2.heap.size + 1) lo hi pf pg lf lg cf cg)
    (fun c pre W => c = .ret ∧ (∃ qs s, pre = qs ++ [s] ∧ (∀ t, t ∈ qs → (fix t).u ≤ hit (fix t)) ∧ hit (fix s) < (fix s).u ∧ Rs W w.heap.size (hit (fix s)) true 0) ∧ RowKit.Below w.heap.size w W)
    (OwnFrom.and (fun s X Y row h _ _ => h) (OwnFrom.and Rs.ownFrom (Rm.ownFrom (Nat.le_refl _) (by omega))))
    (fun c s X Y row h hg hr => ⟨h.1, (by obtain ⟨qs, t, e1, e2, e3, e4⟩ := h.2.1; exact ⟨qs, t, e1, e2, e3, Rs.ownFrom (β := Unit) () X Y row e4 hg hr⟩), ownFrom_below (Nat.le_refl _) (by omega) s X Y row h.2.2 hg hr⟩)
    ⟨fun t ht => (by cases ht), zR4, hRm⟩
    (fun x a' W => ∃ Bx, W4.heap.size ≤ Bx ∧ W.heap[Bx]? = some (.cells #[.int .i64 (fix x).f, .int .i64 (fix x).u, .int .i64 (fix x).l.b, .int .i64 (fix x).l.r, .int .i64 (fix x).l.d, .int .i64 (fix x).r.b, .int .i64 (fix x).r.r, .int .i64 (fix x).r.d] 68 (0, 0)) ∧
      a' = { tmps := #[.slice pf lf cf, .slice pg lg cg, .agg #[.int .i64 lo, .int .i64 hi], undef, undef, .pointer (some ⟨w.heap.size, 0, none⟩), .pointer (some ⟨w.heap.size + 1, 0, none⟩), .pointer (some ⟨w.heap.size + 1 + 1, 0, none⟩), .pointer (some ⟨w.heap.size + 1 + 1 + 1, 0, none⟩), .pointer (some ⟨Bx, 0, none⟩), undef, .slice pf lf cf, .bool true, .bool false, .bool false, .slice pg lg cg, .bool true, .bool false, .bool false, .bool false,
        .pointer (some ⟨w.heap.size, 0, none⟩), .int .i64 lo, .bool false, .bool false, .bool false, .pointer (some ⟨w.heap.size, 0, none⟩), .int .i64 lo, .pointer (some ⟨w.heap.size, 1, none⟩), .int .i64 hi, .bool false, .bool false, .bool false, .pointer (some ⟨w.heap.size, 1, none⟩), .int .i64 hi, .bool false, .bool false, .slice pf lf cf, .slice pg lg cg, .agg #[.int .i64 lo, .int .i64 hi],
        .func (.func 62) #[] #[.pointer (some ⟨w2.heap.size + 1 + 1, 0, none⟩), .pointer (some ⟨w2.heap.size, 0, none⟩), .pointer (some ⟨w2.heap.size + 1, 0, none⟩)], (fix x).V, undef, undef, undef, undef, undef, undef, undef, undef, undef, undef, undef, undef, undef], defers := [] })
    (fun x a' _ X Y row hs hg hr => by obtain ⟨Bx, h1, h2, h3⟩ := hs; exact ⟨Bx, h1, blk_own Bx _ rfl () X Y row h2 hg (fun r e => (hr r e).2), h3⟩)
    ?assign ?body ?done ?stop
  case assign =>
    rintro l pre x W K ⟨hp, hs, hR⟩ hK
    have hsz := hR.below.size
    have hWs := (Array.getElem?_eq_some_iff.1 hR.m1).1
    simp only [ST.V]
    clear hN hlen HN
    gi_wp2
    refine hK _ _ ((KeepsOthers.alloc _ _).from _) ?_ ⟨hp, hs.below ((Below.refl _ W).alloc (Nat.le_refl _) _), hR.more hsz ((Below.refl _ W).alloc (Nat.le_refl _) _)⟩ ⟨W.heap.size, ?_, World.alloc_heap_new W _, rfl⟩
    · exact hR.kp (hR.more hsz ((Below.refl _ W).alloc (Nat.le_refl _) _)) ((Below.refl _ W).alloc hsz _)
    · omega
  case body =>
    rintro l pre x a' W hl ⟨r, hr⟩ ⟨hpre, hRs, hR⟩ ⟨Bx, hBx, bX, rfl⟩ hlt
    have okF := fix_ok x
    have HP := Lib.hid hpre
    clear hN hlen HN hlt hpre hr
    have bY : StB W Bx (fix x) := bX
    clear bX
    generalize hy : fix x = y at *
    have HY := Lib.hid hy
    clear hy
    have hBW := bY.lt
    have hnW : w.heap.size ≤ W.heap.size := hR.below.size
    have hf0 := okF.f0
    have hfu := okF.fu
    have hu1 := okF.u1
    obtain ⟨c, hc⟩ : ∃ c, c = y.lt y.f := ⟨_, rfl⟩
    have KL : Hid (∀ m w, CallsIn (Fence.wide.inRound l) m Try.prog 53 #[.agg #[.int .i64 y.f, .int .i64 y.u, .int .i64 y.l.b, .int .i64 y.l.r, .int .i64 y.l.d, .int .i64 y.r.b, .int .i64 y.r.r, .int .i64 y.r.d], .int .i64 y.f] w fun e w' => e = .returned (.bool c) ∧ RowKit.Below w.heap.size w w') :=
      fun m w => CallsIn.inRound l (callsIn_wide.2 (by have := left_any y y.f w okF hf0 (by omega); rw [← hc] at this; exact this))
    have HC := Lib.hid hc
    clear hc
    cases c with
    | true =>
      obtain ⟨c0, c1, c2, c3, c4, c5, c6, c7⟩ := bY.all
      gi_wp2_with fail
      refine (KL.out _ _).mono ?_
      rintro _ W2 ⟨rfl, hb2⟩
      clear c0 c1 c2 c3 c4 c5 c6 c7
      have hB12 := Lib.hid hb2
      obtain ⟨c0, c1, c2, c3, c4, c5, c6, c7⟩ := (bY.below hb2).all
      obtain ⟨d6, d7, d8⟩ := (hRs.below hb2).cells
      obtain ⟨f6, f7, f8⟩ := (hRs.below hb2).fz
      clear hb2
      gi_wp2
      have hh : hit y = y.f := by unfold hit; rw [← HC.out, if_pos rfl]
      refine ⟨((keeps_of_below hB12.out).trans putR_keeps).from _, rfl, ⟨pre, x, rfl, HP.out, ?_, ?_⟩, ?_⟩
      · rw [HY.out, hh]; exact hfu
      · rw [HY.out, hh]; exact (hRs.below hB12.out).put _ _ _
      · exact (hR.more hnW hB12.out).below.trans (putR_below (Nat.le_refl _))
    | false =>
      have tI := turn_is okF
      obtain ⟨T, hT⟩ : ∃ T : Int, T = y.f + turnK y := ⟨_, rfl⟩
      have KT : Hid (∀ m w, CallsIn (Fence.wide.inRound l) m Try.prog 54 #[.agg #[.int .i64 y.f, .int .i64 y.u, .int .i64 y.l.b, .int .i64 y.l.r, .int .i64 y.l.d, .int .i64 y.r.b, .int .i64 y.r.r, .int .i64 y.r.d]] w fun e w' => e = .returned (.int .i64 T) ∧ RowKit.Below w.heap.size w w') :=
        fun m w => CallsIn.inRound l (callsIn_wide.2 (by have := turnS_any y w okF; rw [← hT] at this; exact this))
      have hh : hit y = T := by unfold hit; rw [← HC.out, if_neg (by simp), hT]
      have HH := Lib.hid hh
      clear hh hT tI
      obtain ⟨c0, c1, c2, c3, c4, c5, c6, c7⟩ := bY.all
      gi_wp2_with fail
      refine (KL.out _ _).mono ?_
      rintro _ W2 ⟨rfl, hb2⟩
      clear c0 c1 c2 c3 c4 c5 c6 c7
      have hB12 := Lib.hid hb2
      clear hb2
      obtain ⟨c0, c1, c2, c3, c4, c5, c6, c7⟩ := (bY.below hB12.out).all
      gi_wp2_with fail
      refine (KT.out _ _).mono ?_
      rintro _ W3 ⟨rfl, hb2⟩
      clear c0 c1 c2 c3 c4 c5 c6 c7
      have hB13 := Lib.hid (hB12.out.trans (hb2.mono hB12.out.size))
      clear hb2
      obtain ⟨c0, c1, c2, c3, c4, c5, c6, c7⟩ := (bY.below hB13.out).all
      obtain ⟨d6, d7, d8⟩ := (hRs.below hB13.out).cells
      obtain ⟨f6, f7, f8⟩ := (hRs.below hB13.out).fz
      by_cases hTu : T < y.u
      · gi_wp2
        refine ⟨((keeps_of_below hB13.out).trans putR_keeps).from _, rfl, ⟨pre, x, rfl, HP.out, ?_, ?_⟩, ?_⟩
        · rw [HY.out, HH.out]; exact hTu
        · rw [HY.out, HH.out]; exact (hRs.below hB13.out).put _ _ _
        · exact (hR.more hnW hB13.out).below.trans (putR_below (Nat.le_refl _))
      · gi_wp2
        have hR3 := hR.more hnW hB13.out
        refine ⟨(keeps_of_below hB13.out).from _, hR.kp hR3 (hB13.out.mono hnW), fun t ht => ?_, hRs.below hB13.out, hR3⟩
        rcases List.mem_append.1 ht with ht | ht
        · exact HP.out t ht
        · rw [List.mem_singleton.1 ht, HY.out, HH.out]; omega
  case done =>
    rintro D xs W hD rfl ⟨hp, hRs, hR⟩ hK
    have hno : belR (AA f) (AA g) lo hi = (0, false) := belR_no (bel_none HVf.out HVg.out (by omega) N lo (by omega) (by omega) fun s hs => by
      have ok := strs_ok HVf.out HVg.out (by omega) N lo (by omega) s hs
      have := hp s hs
      rw [fix_eq ok] at this
      omega)
    have HE : Hid (R1 = 0 ∧ R2 = false) := ⟨by rw [HR.out.1, hno], by rw [HR.out.2, hno]⟩
    have HD := Lib.hid hD
    have HK := Lib.hid hK
    have HBW := Lib.hid hR.below
    have HRs := Lib.hid hRs
    obtain ⟨d6, d7, d8⟩ := hRs.cells
    obtain ⟨f6, f7, f8⟩ := hRs.fz
    clear hp hno hK hR hRs hN hlen HN HR hD
    gi_wp2
    have hDn : w.heap.size + 3 < D := by have := HD.out; omega
    obtain ⟨W5, hW5⟩ : ∃ W5, W5 = putR W w.heap.size 0 false 0 := ⟨_, rfl⟩
    have hP := HRs.out.put 0 false 0
    have hK5 : (putR W w.heap.size 0 false 0).heap[D]? = some (.deferred (some [])) := (putR_heap hDn).trans HK.out
    have hbb := HBW.out.trans (putR_below (W := W) (x := 0) (b := false) (e := 0) (Nat.le_refl w.heap.size))
    rw [← hW5] at hP hK5 hbb
    rw [show ((W.setCell ⟨w.heap.size + 1, 0, none⟩ (.int .i64 0)).setCell ⟨w.heap.size + 1 + 1, 0, none⟩ (.bool false)).setCell ⟨w.heap.size + 1 + 1 + 1, 0, none⟩ (.int .i64 0) = W5 from hW5.symm]
    obtain ⟨e6, e7, e8⟩ := (hP.obj (o := .deferred none) hDn).cells
    have hPB := belowK_b (w := W4) HB4.out.size _ D _ (.deferred none) HD.out hK5 rfl rfl
    refine ⟨by simp, .inl ⟨_, _, rfl, run_takeDeferred hK5, ?_⟩⟩
    refine ⟨.tuple #[.int .i64 0, .bool false, .int .i64 0], ?_, by rw [HE.out.1, HE.out.2], hbb.trans hPB⟩
    simp [results, Try.results23, go_sem, e6, e7, e8]
  case stop =>
    rintro D c pre W hD hp ⟨rfl, ⟨qs, s, rfl, hq, hs, hRs⟩, hB⟩ hK
    have okm : ∀ t, t ∈ qs ++ [s] → fix t = t := fun t ht => fix_eq (strs_ok HVf.out HVg.out (by omega) N lo (by omega) t (hp.subset ht))
    obtain ⟨k1, k2, k3, k4⟩ := bel_some HVf.out HVg.out (by omega) N lo qs s (by omega) (by omega) hp (fun t ht => by
      have := hq t ht
      rw [okm t (by simp [ht])] at this
      omega) (by rw [okm s (by simp)] at hs; exact hs)
    have hyes := belR_yes k3 k1 k2 k4
    have HE : Hid (R1 = hit (fix s) ∧ R2 = true) := ⟨by rw [HR.out.1, hyes, okm s (by simp)], by rw [HR.out.2, hyes]⟩
    generalize hit (fix s) = X at *
    have HD := Lib.hid hD
    have HK := Lib.hid hK
    have HBW := Lib.hid hB
    have HRs := Lib.hid hRs
    clear hp hyes hK hB hRs hN hlen HN HR hD okm k1 k2 k3 k4 hq hs
    gi_wp2
    have hDn : w.heap.size + 3 < D := by have := HD.out; omega
    have hK5 := HK.out
    obtain ⟨e6, e7, e8⟩ := (HRs.out.obj (o := .deferred none) hDn).cells
    have hPB := belowK_b (w := W4) HB4.out.size _ D _ (.deferred none) HD.out hK5 rfl rfl
    refine ⟨by simp, .inl ⟨_, _, rfl, run_takeDeferred hK5, ?_⟩⟩
    refine ⟨.tuple #[.int .i64 X, .bool true, .int .i64 0], ?_, by rw [HE.out.1, HE.out.2], HBW.out.trans hPB⟩
    simp [results, Try.results23, go_sem, e6, e7, e8]
theorem below_any (f g : List RP) (pf pg : Option Addr) (bf of cf lf bg og cg lg : Nat) (lo hi : Int) (w : World) (hS : SlP w pf bf of lf f) (hS' : SlP w pg bg og lg g) :
    Calls Try.prog 23 #[.slice pf lf cf, .slice pg lg cg, .agg #[.int .i64 lo, .int .i64 hi]] w fun e w' => e = .returned (.tuple #[.int .i64 (belV f g lo hi).1, .bool (belV f g lo hi).2.1, .int .i64 (belV f g lo hi).2.2]) ∧ RowKit.Below w.heap.size w w' := by
  by_cases h : VR f ∧ VR g ∧ 0 ≤ lo ∧ lo ≤ hi ∧ hi ≤ 100000
  · rw [show belV f g lo hi = _ from if_pos h]
    exact below_yes f g pf pg bf of cf lf bg og cg lg lo hi w hS hS' h.1 h.2.1 (by omega) (by omega) (by omega)
  · rw [show belV f g lo hi = _ from if_neg h]
    refine below_bad f g pf pg bf of cf lf bg og cg lg lo hi w hS hS' (vR f) (vR g) rfl rfl ?_
    by_cases hf : VR f
    · by_cases hg : VR g
      · have := vR_iff.2 hf
        have := vR_iff.2 hg
        have : ¬ (0 ≤ lo ∧ lo ≤ hi ∧ hi ≤ 100000) := fun k => h ⟨hf, hg, k⟩
        by_cases h0 : lo < 0
        · exact .inr (.inr (.inl ⟨vR_iff.2 hf, vR_iff.2 hg, h0⟩))
        · by_cases h1 : hi < lo
          · exact .inr (.inr (.inr (.inl ⟨vR_iff.2 hf, vR_iff.2 hg, h0, h1⟩)))
          · exact .inr (.inr (.inr (.inr ⟨vR_iff.2 hf, vR_iff.2 hg, h0, h1, by omega⟩)))
      · exact .inr (.inl ⟨vR_iff.2 hf, vR_no hg⟩)
    · exact .inl (vR_no hf)
end Go.Proofs.Ytmjdolgcgbiajaa
