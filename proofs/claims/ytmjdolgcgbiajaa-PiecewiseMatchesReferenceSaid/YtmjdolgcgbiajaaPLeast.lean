/-
  Contract of Least.
-/
import Derived.Test.YtmjdolgcgbiajaaPAdd
namespace Go.Proofs.Ytmjdolgcgbiajaa
open Go.RowKit Go.Shelf Pw

attribute [local go_sem] Oper.semAt_some

def leastR (f g : List RP) : List RP × Int := ((resA (leastL (AA f) (AA g))).1.map toRP, (resA (leastL (AA f) (AA g))).2)
set_option maxRecDepth 100000 in
set_option maxHeartbeats 1000000 in
theorem least_no1 (f : List RP) (pf : Option Addr) (bf of cf lf : Nat) (gv : Value) (w : World) (hS : SlP w pf bf of lf f) (hv : vR f = false) : Calls Try.prog 21 #[.slice pf lf cf, gv] w fun e w' => OutP (RowKit.Below w.heap.size w) [] 1 e w' := by
  have K := Lib.hid (fun w' (h : RowKit.Below w.heap.size w w') => valid_sl f pf bf of cf lf w' (hS.below h))
  rw [hv] at K
  clear hS hv
  go_enter Try.func21, Try.ntmps21
  go_wp2_with fail
  refine (K.out _ (Below.refl _ _)).mono ?_
  rintro _ w1 ⟨rfl, hb⟩
  have HB := Lib.hid hb
  clear hb
  go_wp2
  go_ret2
  exact OutP.bad HB.out
set_option maxRecDepth 100000 in
set_option maxHeartbeats 1000000 in
theorem least_no2 (f g : List RP) (pf pg : Option Addr) (bf of cf lf bg og cg lg : Nat) (w : World) (hS : SlP w pf bf of lf f) (hS' : SlP w pg bg og lg g) (hv : vR f = true) (hv' : vR g = false) : Calls Try.prog 21 #[.slice pf lf cf, .slice pg lg cg] w fun e w' => OutP (RowKit.Below w.heap.size w) [] 1 e w' := by
  have K := Lib.hid (fun w' (h : RowKit.Below w.heap.size w w') => valid_sl f pf bf of cf lf w' (hS.below h))
  have K' := Lib.hid (fun w' (h : RowKit.Below w.heap.size w w') => valid_sl g pg bg og cg lg w' (hS'.below h))
  rw [hv] at K
  rw [hv'] at K'
  clear hS hv hS' hv'
  go_enter Try.func21, Try.ntmps21
  go_wp2_with fail
  refine (K.out _ (Below.refl _ _)).mono ?_
  rintro _ w1 ⟨rfl, hb⟩
  have HB := Lib.hid hb
  clear hb
  go_wp2_with fail
  refine (K'.out _ HB.out).mono ?_
  rintro _ w2 ⟨rfl, hb⟩
  have HB2 := Lib.hid (HB.out.trans (hb.mono HB.out.size))
  clear hb
  go_wp2
  go_ret2
  exact OutP.bad HB2.out


/-- A line in its box. -/
def LnB (W : World) (b : Nat) (l : LN) : Prop := W.heap[b]? = some (.cells #[.int .i64 l.b, .int .i64 l.r, .int .i64 l.d] 56 (0, 0))
theorem LnB.all {W : World} {b : Nat} {l : LN} (h : LnB W b l) : W.cell? ⟨b, 0, none⟩ = some (.int .i64 l.b) ∧ W.cell? ⟨b, 1, none⟩ = some (.int .i64 l.r) ∧ W.cell? ⟨b, 2, none⟩ = some (.int .i64 l.d) := by
  unfold LnB at h
  refine ⟨?_, ?_, ?_⟩ <;> simp [World.cell?, h]
theorem LnB.fz {W : World} {b : Nat} {l : LN} (h : LnB W b l) : W.frozen? ⟨b, 0, none⟩ = false ∧ W.frozen? ⟨b, 1, none⟩ = false ∧ W.frozen? ⟨b, 2, none⟩ = false := by
  unfold LnB at h
  refine ⟨?_, ?_, ?_⟩ <;> simp [World.frozen?, h]
theorem LnB.below {W W' : World} {b : Nat} {l : LN} (h : LnB W b l) (k : RowKit.Below W.heap.size W W') : LnB W' b l := (k.block b (Array.getElem?_eq_some_iff.1 h).1).trans h
theorem LnB.lt {W : World} {b : Nat} {l : LN} (h : LnB W b l) : b < W.heap.size := (Array.getElem?_eq_some_iff.1 h).1

theorem LnB.two {W : World} {n : Nat} (hn : W.heap.size = n) (l m : LN) :
    LnB ((W.alloc (.cells #[.int .i64 l.b, .int .i64 l.r, .int .i64 l.d] 56)).alloc (.cells #[.int .i64 m.b, .int .i64 m.r, .int .i64 m.d] 56)) n l ∧ LnB ((W.alloc (.cells #[.int .i64 l.b, .int .i64 l.r, .int .i64 l.d] 56)).alloc (.cells #[.int .i64 m.b, .int .i64 m.r, .int .i64 m.d] 56)) (n + 1) m := by
  subst hn
  refine ⟨?_, ?_⟩
  · unfold LnB
    rw [Below.heap_alloc _ _ _ (by simp)]
    exact World.alloc_heap_new W _
  · have := World.alloc_heap_new (W.alloc (.cells #[.int .i64 l.b, .int .i64 l.r, .int .i64 l.d] 56)) (.cells #[.int .i64 m.b, .int .i64 m.r, .int .i64 m.d] 56)
    rwa [World.size_alloc] at this
/-- Another line is put into the box. -/
def putL (W : World) (b : Nat) (l : LN) : World := ((W.setCell ⟨b, 0, none⟩ (.int .i64 l.b)).setCell ⟨b, 1, none⟩ (.int .i64 l.r)).setCell ⟨b, 2, none⟩ (.int .i64 l.d)
theorem LnB.put {W : World} {b : Nat} {l : LN} (h : LnB W b l) (m : LN) : LnB (putL W b m) b m := by
  unfold LnB putL at *
  exact heap_setCell_same _ _ _ _ _ _ (heap_setCell_same _ _ _ _ _ _ (heap_setCell_same _ _ _ _ _ _ h))
theorem putL_other (W : World) {b k : Nat} (l : LN) (h : k ≠ b) : (putL W b l).heap[k]? = W.heap[k]? := by
  unfold putL
  rw [heap_setCell_other _ _ _ _ h, heap_setCell_other _ _ _ _ h, heap_setCell_other _ _ _ _ h]
theorem putL_below {W : World} {B b : Nat} (l : LN) (h : B ≤ b) : RowKit.Below B W (putL W b l) := by
  unfold putL
  exact (((Below.refl _ W).setCell h _).setCell h _).setCell h _
theorem OwnS.other {W W' : World} {base b : Nat} {v : Value} {L : List SP} {cs : Array Value} {T : TypeId} {m : Nat × Nat} (h : OwnS W base v L) (hb : W.heap[b]? = some (.cells cs T m)) (hT : T ≠ 71) (hk : ∀ k, k ≠ b → W'.heap[k]? = W.heap[k]?) : OwnS W' base v L := by
  obtain ⟨h0, ⟨rfl, h1⟩ | ⟨g, cap, cur, rfl, hg, hgb, h2⟩⟩ := h
  · exact ⟨h0, .inl ⟨rfl, h1⟩⟩
  · refine ⟨h0, .inr ⟨g, cap, cur, rfl, hg, ?_, h2⟩⟩
    rw [hk g fun e => ?_]
    · exact hgb
    · subst e
      rw [hb] at hgb
      injection hgb with h3
      injection h3 with _ h4
      exact hT h4

theorem least_len (xs : List ST) : (xs.flatMap fun x => leastSec (fix x)).length ≤ 2 * xs.length := by
  induction xs with
  | nil => simp
  | cons a t ih =>
    rw [List.flatMap_cons, List.length_append, List.length_cons]
    have : (leastSec (fix a)).length ≤ 2 := by unfold leastSec; split <;> simp
    omega

theorem least_len1 (xs : List ST) : xs.length ≤ (xs.flatMap leastSec).length := by
  induction xs with
  | nil => simp
  | cons a t ih =>
    rw [List.flatMap_cons, List.length_append, List.length_cons]
    have : 1 ≤ (leastSec a).length := by unfold leastSec; simp
    omega
theorem flat_fix {L : List ST} (h : ∀ s, s ∈ L → s.Ok) {α : Type} (k : ST → List α) : L.flatMap (fun x => k (fix x)) = L.flatMap k := by
  rw [List.flatMap_def, List.flatMap_def, map_fix h]
theorem leastR_is {f g : List RP} (hf : VR f) (hg : VR g) {N : Nat} (hN : N = 100001) : resR ((strs g f 100000 N 0).flatMap leastSec) = leastR f g := by
  have h := least_strs hf hg N 0 (.inr ⟨by omega, by simp [isS, hg.va.zero]⟩) (by omega)
  simp only [ps, List.map_nil, List.nil_append, Int.natCast_zero] at h
  rw [resR_A, h]
  · rfl
  · intro s hs
    obtain ⟨t, ht, hs⟩ := List.mem_flatMap.1 hs
    exact leastSec_ok (strs_ok hg hf (by omega) _ _ (by omega) t ht) s hs

set_option maxRecDepth 100000 in
set_option maxHeartbeats 4000000 in
theorem least_yes (f g : List RP) (pf pg : Option Addr) (bf of cf lf bg og cg lg : Nat) (w : World) (hS : SlP w pf bf of lf f) (hS' : SlP w pg bg og lg g) (hf : VR f) (hg : VR g) : Calls Try.prog 21 #[.slice pf lf cf, .slice pg lg cg] w fun e w' => OutP (RowKit.Below w.heap.size w) (leastR f g).1 (leastR f g).2 e w' := by
  obtain ⟨N, hN⟩ : ∃ N : Nat, N = 100001 := ⟨_, rfl⟩
  have HS := Lib.hid hS
  have HS' := Lib.hid hS'
  have HVf := Lib.hid hf
  have HVg := Lib.hid hg
  have K := Lib.hid (fun m w' (h : RowKit.Below w.heap.size w w') => (callsIn_wide (n := m)).2 (valid_sl f pf bf of cf lf w' (hS.below h)))
  have K' := Lib.hid (fun m w' (h : RowKit.Below w.heap.size w w') => (callsIn_wide (n := m)).2 (valid_sl g pg bg og cg lg w' (hS'.below h)))
  rw [vR_iff.2 hf] at K
  rw [vR_iff.2 hg] at K'
  have KE := Lib.hid (fun m w => (callsIn_wide (n := m)).2 (everywhere_any w))
  have KS := Lib.hid (fun m w => (callsIn_wide (n := m)).2 (stretches_any pg pf lg lf cg cf 0 100000 w))
  clear hS hS' hf hg
  refine (callsIn_wide (n := 6)).1 ?_
  refine callsIn_of_wp_marks Try.func21 rfl trivial ?_ rfl
  simp only [Try.ntmps21, List.size_toArray, List.length_cons, List.length_nil, Nat.reduceAdd, Nat.reduceSub, Array.replicate_succ, Array.replicate_zero, List.push_toArray, List.append_toArray, List.nil_append, List.cons_append]
  have hfn : ∀ k, Fence.wide.fn k = True := fun _ => rfl
  have hdp : Fence.wide.depth.isSome = false := rfl
  gi_wp2_with fail
  refine (K.out _ _ (Below.refl _ _)).mono ?_
  rintro _ w1 ⟨rfl, hb⟩
  have HB1 := Lib.hid hb
  clear hb
  gi_wp2_with fail
  refine (K'.out _ _ HB1.out).mono ?_
  rintro _ w2 ⟨rfl, hb⟩
  have HB2 := Lib.hid (HB1.out.trans (hb.mono HB1.out.size))
  clear hb HB1
  gi_wp2_with fail
  refine (KE.out _ _).mono ?_
  rintro _ w3 ⟨rfl, hb⟩
  have hbx : (w2.alloc (.cells #[.slice none 0 0] 62)).heap[w2.heap.size]? = some (.cells #[.slice none 0 0] 62) := World.alloc_heap_new w2 _
  have hbox := (hb.block w2.heap.size (by simp)).trans hbx
  have hz3 : w2.heap.size < w3.heap.size := by have := hb.size; simp at this; omega
  have HB3 := Lib.hid ((HB2.out.alloc HB2.out.size (.cells #[.slice none 0 0] 62)).trans (hb.mono (by have := HB2.out.size; simp; omega)))
  clear hb hbx
  gi_wp2_with fail
  refine (KS.out _ _).mono ?_
  rintro _ w4 ⟨rfl, hw4⟩
  gi_wp2_with fail
  obtain ⟨hz4, hb4, x2, x3, x1⟩ := stW_is w3 pg pf lg lf cg cf 0 100000
  have HB4 := Lib.hid (HB3.out.trans (hb4.mono HB3.out.size))
  have hbox4 : Boxed (stW w3 pg pf lg lf cg cf 0 100000) w2.heap.size 62 (.slice none 0 0) := (hb4.block _ hz3).trans hbox
  obtain ⟨W0, hW0⟩ : ∃ W0, W0 = stW w3 pg pf lg lf cg cf 0 100000 := ⟨_, rfl⟩
  rw [← hW0] at hz4 x1 x2 x3 hbox4 HB4 ⊢
  have hn0 : w.heap.size ≤ w2.heap.size := HB2.out.size
  have hRm : Rm w W0 w.heap.size (w3.heap.size + 1 + 1) w3.heap.size (w3.heap.size + 1) 0 100000 pg pf lg lf cg cf := ⟨x1, x2, x3, HB4.out⟩
  have hIt : ItMem W0 w.heap.size (w3.heap.size + 1 + 1) w3.heap.size (w3.heap.size + 1) 0 100000 g f pg pf bg bf og of lg lf cg cf :=
    ⟨by simp [World.cell?, x1], by simp [World.cell?, x1], by simp [World.cell?, x2], by simp [World.cell?, x3], HS'.out.below HB4.out, HS.out.below HB4.out, HS'.out.lt, HS.out.lt⟩
  clear hW0 hw4 hb4 hbox x1 x2 x3 K K' KE KS
  refine wpIn_rangeFunc_ownH (F := Fence.wide) rfl (by omega) (gf := 62) (lb := #[.pointer (some ⟨w3.heap.size + 1 + 1, 0, none⟩), .pointer (some ⟨w3.heap.size, 0, none⟩), .pointer (some ⟨w3.heap.size + 1, 0, none⟩)]) rfl trivial (enters_of Try.func62 (by kernel_rfl) rfl)
    (iter_stops (6 - 1) w.heap.size (w3.heap.size + 1 + 1) w3.heap.size (w3.heap.size + 1) 0 100000 g f pg pf bg bf og of lg lf cg cf N W0 hIt (by omega) HVg.out HVf.out (by omega) (by omega) (by omega) (by omega))
    (fun h k => KpB.trans h k) (fun W l o o' hl h ho hw => ⟨belowK_b (w := W0) (by omega) W l o o' hl h ho hw, fun b hb => World.putObj_heap_other (by omega)⟩) (Below.refl _ _) (fun _ => rfl)
    (fun pre W => Secs W w.heap.size w2.heap.size (pre.flatMap fun x => leastSec (fix x)) ∧ Rm w W w.heap.size (w3.heap.size + 1 + 1) w3.heap.size (w3.heap.size + 1) 0 100000 pg pf lg lf cg cf)
    (fun _ _ _ => False)
    (OwnFrom.and Secs.ownFrom (Rm.ownFrom (Nat.le_refl _) (by omega)))
    (fun _ _ _ _ _ hs _ _ => hs)
    ⟨⟨_, hbox4, OwnS.empty _ _⟩, hRm⟩
    (fun x a' W => ∃ Bx, W0.heap.size ≤ Bx ∧ W.heap[Bx]? = some (.cells #[.int .i64 (fix x).f, .int .i64 (fix x).u, .int .i64 (fix x).l.b, .int .i64 (fix x).l.r, .int .i64 (fix x).l.d, .int .i64 (fix x).r.b, .int .i64 (fix x).r.r, .int .i64 (fix x).r.d] 68 (0, 0)) ∧
      a' = { tmps := #[.slice pf lf cf, .slice pg lg cg, undef, undef, .slice none 0 0, .int .i64 0, .pointer (some ⟨w2.heap.size, 0, none⟩), .pointer (some ⟨Bx, 0, none⟩), undef, undef, undef, .slice pf lf cf, .bool true, .bool false, .bool false, .slice pg lg cg, .bool true, .bool false, .bool false, .slice pg lg cg, .slice pf lf cf, .agg #[.int .i64 0, .int .i64 100000],
        .func (.func 62) #[] #[.pointer (some ⟨w3.heap.size + 1 + 1, 0, none⟩), .pointer (some ⟨w3.heap.size, 0, none⟩), .pointer (some ⟨w3.heap.size + 1, 0, none⟩)], (fix x).V, undef, undef, undef, undef, undef, undef, undef, undef, undef, undef, undef, undef, undef, undef, undef, undef, undef, undef, undef, undef, undef, undef, undef, undef, undef, undef, undef, undef, undef, undef, undef, undef, undef], defers := [] })
    (fun x a' _ X Y row hs hg hr => by obtain ⟨Bx, h1, h2, h3⟩ := hs; exact ⟨Bx, h1, blk_own Bx _ rfl () X Y row h2 hg (fun r e => (hr r e).2), h3⟩)
    ?assign ?body ?done ?stop
  case assign =>
    rintro l pre x W K ⟨hs, hR⟩ hK
    have hsz := hR.below.size
    have hWs := (Array.getElem?_eq_some_iff.1 hR.m1).1
    simp only [ST.V]
    gi_wp2
    refine hK _ _ ((KeepsOthers.alloc _ _).from _) ?_ ⟨hs.more ((Below.refl _ W).alloc (Nat.le_refl _) _), hR.more hsz ((Below.refl _ W).alloc (Nat.le_refl _) _)⟩ ⟨W.heap.size, ?_, World.alloc_heap_new W _, rfl⟩
    · exact hR.kp (hR.more hsz ((Below.refl _ W).alloc (Nat.le_refl _) _)) ((Below.refl _ W).alloc hsz _)
    · omega
  case body =>
    rintro l pre x a' W hl ⟨r, hr⟩ ⟨⟨v, hv, hrow⟩, hR⟩ ⟨Bx, hBx, bX, rfl⟩ hlt
    have okF := fix_ok x
    have hlen := strs_len g f 100000 N 0
    have hLen : ((pre.flatMap fun x => leastSec (fix x)).length + 2) * 32 ≤ 140737488355328 := by have := least_len pre; omega
    gi_wp2
    rename_i Kr hKr
    have hIn : ∀ W', (KeepsFrom W0.heap.size W W' ∧ KpB w.heap.size (w3.heap.size + 1 + 1) w3.heap.size (w3.heap.size + 1) W W') ∧ Secs W' w.heap.size w2.heap.size ((pre.flatMap fun x => leastSec (fix x)) ++ leastSec (fix x)) ∧ Rm w W' w.heap.size (w3.heap.size + 1 + 1) w3.heap.size (w3.heap.size + 1) 0 100000 pg pf lg lf cg cf → ∀ a, ownPostG W0.heap.size (KpB w.heap.size (w3.heap.size + 1 + 1) w3.heap.size (w3.heap.size + 1))
        (fun pre W => Secs W w.heap.size w2.heap.size (pre.flatMap fun x => leastSec (fix x)) ∧ Rm w W w.heap.size (w3.heap.size + 1 + 1) w3.heap.size (w3.heap.size + 1) 0 100000 pg pf lg lf cg cf) (fun _ _ _ => False) (pre ++ [x]) W .normal a W' := by
      rintro W' ⟨⟨h1, h2⟩, h3, h4⟩ _
      exact ⟨h1, h2, by rw [List.flatMap_append, List.flatMap_singleton]; exact h3, h4⟩
    have HIN := Lib.hid hIn
    clear hIn
    have bY : StB W Bx (fix x) := bX
    clear bX
    generalize hy : fix x = y at *
    generalize hLs : (pre.flatMap fun x => leastSec (fix x)) = L at *
    clear hy hLs hlt hlen
    have hBW := bY.lt
    have hnW : w.heap.size ≤ W.heap.size := hR.below.size
    refine Code.wpIn_mono (Q := fun e a' W' => ∃ b8 b9, e = .normal ∧
      a' = { tmps := #[.slice pf lf cf, .slice pg lg cg, undef, undef, .slice none 0 0, .int .i64 0, .pointer (some ⟨w2.heap.size, 0, none⟩), .pointer (some ⟨Bx, 0, none⟩), .pointer (some ⟨b8, 0, none⟩), .pointer (some ⟨b9, 0, none⟩), undef, .slice pf lf cf, .bool true, .bool false, .bool false, .slice pg lg cg, .bool true, .bool false, .bool false, .slice pg lg cg, .slice pf lf cf, .agg #[.int .i64 0, .int .i64 100000],
        .func (.func 62) #[] #[.pointer (some ⟨w3.heap.size + 1 + 1, 0, none⟩), .pointer (some ⟨w3.heap.size, 0, none⟩), .pointer (some ⟨w3.heap.size + 1, 0, none⟩)], y.V, .pointer (some ⟨Bx, 5, none⟩), .agg #[.int .i64 y.r.b, .int .i64 y.r.r, .int .i64 y.r.d], .pointer (some ⟨Bx, 2, none⟩), .agg #[.int .i64 y.l.b, .int .i64 y.l.r, .int .i64 y.l.d], undef, undef, undef, undef, undef, undef, undef, undef, undef, undef, undef, undef, undef, undef, undef, undef, undef, undef, undef, undef, undef, undef, undef, undef, undef, undef, undef, undef, undef], defers := [] } ∧
      LnB W' b8 y.r ∧ LnB W' b9 y.l ∧ b8 ≠ b9 ∧ W.heap.size ≤ b8 ∧ W.heap.size ≤ b9 ∧ RowKit.Below W.heap.size W W') ?k ?r6
    case r6 =>
      refine wpIn_region_of mixed (by kernel_rfl) (fun _ _ h => by obtain ⟨_, _, h, _⟩ := h; cases h) ?_
      refine wpAny_of_held (S := (fun w => w.cell? ⟨Bx, 0, none⟩ = some (.int .i64 y.f) ∧ w.cell? ⟨Bx, 1, none⟩ = some (.int .i64 y.u) ∧ w.cell? ⟨Bx, 2, none⟩ = some (.int .i64 y.l.b) ∧ w.cell? ⟨Bx, 3, none⟩ = some (.int .i64 y.l.r) ∧ w.cell? ⟨Bx, 4, none⟩ = some (.int .i64 y.l.d) ∧ w.cell? ⟨Bx, 5, none⟩ = some (.int .i64 y.r.b) ∧ w.cell? ⟨Bx, 6, none⟩ = some (.int .i64 y.r.r) ∧ w.cell? ⟨Bx, 7, none⟩ = some (.int .i64 y.r.d))) _ _ _ _ ?_
      have hd : RowKit.Below W.heap.size W W.drew := (Below.refl _ W).drew
      have bY1 := bY.below hd
      have hS1 := bY1.all
      have hsz : W.drew.heap.size = W.heap.size := rfl
      have hBW1 : Bx < W.drew.heap.size := hBW
      generalize W.drew = W1 at *
      refine tk0 (v := ?_) (by kernel_rfl) (by kernel_rfl) (by kernel_rfl) (fun _ _ _ h => by obtain ⟨_, _, h, _⟩ := h; cases h) (Or.inl ⟨by rfl, ?_⟩) hS1 ?_
      rotate_left
      · (intro w hSw; (try dsimp only at hSw); go_simp; try with_reducible rfl)
      simp only [Act.put, List.setIfInBounds_toArray, List.set_cons_zero, List.set_cons_succ]
      refine tk1 (v := ?_) (by kernel_rfl) (by kernel_rfl) (by kernel_rfl) (fun _ _ _ h => by obtain ⟨_, _, h, _⟩ := h; cases h) (Or.inl ⟨by rfl, ?_⟩) hS1 ?_
      rotate_left
      · (intro w hSw; (try dsimp only at hSw); go_simp; try with_reducible rfl)
      simp only [Act.put, List.setIfInBounds_toArray, List.set_cons_zero, List.set_cons_succ]
      refine tk2 (v := ?_) (by kernel_rfl) (by kernel_rfl) (by kernel_rfl) (fun _ _ _ h => by obtain ⟨_, _, h, _⟩ := h; cases h) (Or.inl ⟨by rfl, ?_⟩) hS1 ?_
      rotate_left
      · (intro w hSw; (try dsimp only at hSw); go_simp; try with_reducible rfl)
      simp only [Act.put, List.setIfInBounds_toArray, List.set_cons_zero, List.set_cons_succ]
      refine tk3 (v := ?_) (by kernel_rfl) (by kernel_rfl) (by kernel_rfl) (fun _ _ _ h => by obtain ⟨_, _, h, _⟩ := h; cases h) (Or.inl ⟨by rfl, ?_⟩) hS1 ?_
      rotate_left
      · (intro w hSw; (try dsimp only at hSw); go_simp; try with_reducible rfl)
      simp only [Act.put, List.setIfInBounds_toArray, List.set_cons_zero, List.set_cons_succ]
      refine wpAnyH_ready (rs := [4, 5]) (by kernel_rfl) (by simp) (st4 (fun K hK => ?_) (st5 (fun K hK => ?_) AllReadyH.nil))
      · go_simp
        refine hK.out _ _ ?_ (fun hHeld => ?_)
        · exact (bY1.below ((Below.refl _ W1).alloc (Nat.le_refl _) _)).all
        clear hK K
        try simp only [Act.put, List.setIfInBounds_toArray, List.set_cons_zero, List.set_cons_succ]
        refine wpAnyH_ready (rs := [5]) (by kernel_rfl) (by simp) (st5 (fun K hK => ?_) AllReadyH.nil)
        go_simp
        refine hK.out _ _ ?_ (fun hHeld => ?_)
        · exact ((bY1.below ((Below.refl _ W1).alloc (Nat.le_refl _) _)).below ((Below.refl _ _).alloc (Nat.le_refl _) _)).all
        clear hK K
        try simp only [Act.put, List.setIfInBounds_toArray, List.set_cons_zero, List.set_cons_succ]
        refine wpAnyH_ready (rs := [6]) (by kernel_rfl) (by simp) (st6 (fun K hK => ?_) AllReadyH.nil)
        go_simp
        refine hK.out _ _ ?_ (fun hHeld => ?_)
        · exact ((bY1.below ((Below.refl _ W1).alloc (Nat.le_refl _) _)).below ((Below.refl _ _).alloc (Nat.le_refl _) _)).all
        clear hK K
        try simp only [Act.put, List.setIfInBounds_toArray, List.set_cons_zero, List.set_cons_succ]
        refine wpAnyH_ready (rs := [7]) (by kernel_rfl) (by simp) (st7 (fun K hK => ?_) AllReadyH.nil)
        go_simp
        refine hK.out _ _ ?_ (fun hHeld => ?_)
        · exact ((bY1.below ((Below.refl _ W1).alloc (Nat.le_refl _) _)).below ((Below.refl _ _).alloc (Nat.le_refl _) _)).all
        clear hK K
        try simp only [Act.put, List.setIfInBounds_toArray, List.set_cons_zero, List.set_cons_succ]
        refine wpAnyH_done (by kernel_rfl) ?_ _
        exact ⟨_, _, rfl, rfl, (LnB.two hsz y.r y.l).1, (LnB.two hsz y.r y.l).2, by omega, by omega, by omega, hd.trans (((Below.refl _ W1).alloc (by omega) _).alloc (by simp; omega) _)⟩
      · go_simp
        refine hK.out _ _ ?_ (fun hHeld => ?_)
        · exact (bY1.below ((Below.refl _ W1).alloc (Nat.le_refl _) _)).all
        clear hK K
        try simp only [Act.put, List.setIfInBounds_toArray, List.set_cons_zero, List.set_cons_succ]
        refine wpAnyH_ready (rs := [4]) (by kernel_rfl) (by simp) (st4 (fun K hK => ?_) AllReadyH.nil)
        go_simp
        refine hK.out _ _ ?_ (fun hHeld => ?_)
        · exact ((bY1.below ((Below.refl _ W1).alloc (Nat.le_refl _) _)).below ((Below.refl _ _).alloc (Nat.le_refl _) _)).all
        clear hK K
        try simp only [Act.put, List.setIfInBounds_toArray, List.set_cons_zero, List.set_cons_succ]
        refine wpAnyH_ready (rs := [6]) (by kernel_rfl) (by simp) (st6 (fun K hK => ?_) AllReadyH.nil)
        go_simp
        refine hK.out _ _ ?_ (fun hHeld => ?_)
        · exact ((bY1.below ((Below.refl _ W1).alloc (Nat.le_refl _) _)).below ((Below.refl _ _).alloc (Nat.le_refl _) _)).all
        clear hK K
        try simp only [Act.put, List.setIfInBounds_toArray, List.set_cons_zero, List.set_cons_succ]
        refine wpAnyH_ready (rs := [7]) (by kernel_rfl) (by simp) (st7 (fun K hK => ?_) AllReadyH.nil)
        go_simp
        refine hK.out _ _ ?_ (fun hHeld => ?_)
        · exact ((bY1.below ((Below.refl _ W1).alloc (Nat.le_refl _) _)).below ((Below.refl _ _).alloc (Nat.le_refl _) _)).all
        clear hK K
        try simp only [Act.put, List.setIfInBounds_toArray, List.set_cons_zero, List.set_cons_succ]
        refine wpAnyH_done (by kernel_rfl) ?_ _
        exact ⟨_, _, rfl, rfl, (LnB.two hsz y.l y.r).2, (LnB.two hsz y.l y.r).1, by omega, by omega, by omega, hd.trans (((Below.refl _ W1).alloc (by omega) _).alloc (by simp; omega) _)⟩
    case k =>
      rintro e a' W1 ⟨b8, b9, rfl, rfl, h8, h9, hne, l8, l9, hb1⟩
      have y1 := bY.below hb1
      have hR1 := hR.more hnW hb1
      have hv1 : Boxed W1 w2.heap.size 62 v := (hb1.block _ hv.lt).trans hv
      have hrow1 := hrow.below hb1
      have hn1 : w.heap.size ≤ W1.heap.size := Nat.le_trans hnW hb1.size
      have hf0 := okF.f0
      have hfu := okF.fu
      have hu1 := okF.u1
      have hx8 : Bx < b8 := by omega
      have hx9 : Bx < b9 := by omega
      have hvl := hv.lt
      have hs8 : w2.heap.size < b8 := by omega
      have hs9 : w2.heap.size < b9 := by omega
      have z8 := h8.lt
      have z9 := h9.lt
      refine hKr _ _ ?_
      obtain ⟨QQ, hQQ⟩ : ∃ QQ : Exit → Act → World → Prop, QQ = (fun e a' W' => ∃ u1 u2, e = .normal ∧
        a' = { tmps := #[.slice pf lf cf, .slice pg lg cg, undef, undef, .slice none 0 0, .int .i64 0, .pointer (some ⟨w2.heap.size, 0, none⟩), .pointer (some ⟨Bx, 0, none⟩), .pointer (some ⟨b8, 0, none⟩), .pointer (some ⟨b9, 0, none⟩), undef, .slice pf lf cf, .bool true, .bool false, .bool false, .slice pg lg cg, .bool true, .bool false, .bool false, .slice pg lg cg, .slice pf lf cf, .agg #[.int .i64 0, .int .i64 100000],
        .func (.func 62) #[] #[.pointer (some ⟨w3.heap.size + 1 + 1, 0, none⟩), .pointer (some ⟨w3.heap.size, 0, none⟩), .pointer (some ⟨w3.heap.size + 1, 0, none⟩)], y.V, .pointer (some ⟨Bx, 5, none⟩), .agg #[.int .i64 y.r.b, .int .i64 y.r.r, .int .i64 y.r.d], .pointer (some ⟨Bx, 2, none⟩), .agg #[.int .i64 y.l.b, .int .i64 y.l.r, .int .i64 y.l.d], .agg #[.int .i64 y.f, .int .i64 y.u, .int .i64 y.l.b, .int .i64 y.l.r, .int .i64 y.l.d, .int .i64 y.r.b, .int .i64 y.r.r, .int .i64 y.r.d], .pointer (some ⟨Bx, 0, none⟩), .int .i64 y.f, .bool (y.lt y.f), u1, u2, undef, undef, undef, undef, undef, undef, undef, undef, undef, undef, undef, undef, undef, undef, undef, undef, undef, undef, undef, undef, undef, undef, undef], defers := [] } ∧
        LnB W' b8 (lead y) ∧ LnB W' b9 (other y) ∧ StB W' Bx y ∧ Rm w W' w.heap.size (w3.heap.size + 1 + 1) w3.heap.size (w3.heap.size + 1) 0 100000 pg pf lg lf cg cf ∧ Boxed W' w2.heap.size 62 v ∧ OwnS W' w.heap.size v L ∧ RowKit.Below W.heap.size W W') := ⟨_, rfl⟩
      have HQQ := Lib.hid hQQ
      clear hQQ
      refine wpIn_seq (Code.wpIn_mono (Q := QQ) ?k2 ?r78)
      case r78 =>
        obtain ⟨c, hc⟩ : ∃ c, c = y.lt y.f := ⟨_, rfl⟩
        have KL : Hid (∀ m w, CallsIn (Fence.wide.inRound l) m Try.prog 53 #[.agg #[.int .i64 y.f, .int .i64 y.u, .int .i64 y.l.b, .int .i64 y.l.r, .int .i64 y.l.d, .int .i64 y.r.b, .int .i64 y.r.r, .int .i64 y.r.d], .int .i64 y.f] w fun e w' => e = .returned (.bool c) ∧ RowKit.Below w.heap.size w w') :=
          fun m w => CallsIn.inRound l (callsIn_wide.2 (by have := left_any y y.f w okF hf0 (by omega); rw [← hc] at this; exact this))
        have HC := Lib.hid hc
        clear hc
        obtain ⟨c0, c1, c2, c3, c4, c5, c6, c7⟩ := y1.all
        gi_wp2_with fail
        refine (KL.out _ _).mono ?_
        rintro _ W2 ⟨rfl, hb2⟩
        clear c0 c1 c2 c3 c4 c5 c6 c7
        have hB12 := Lib.hid hb2
        clear hb2
        have g8 := h8.below hB12.out
        have g9 := h9.below hB12.out
        obtain ⟨d0, d1, d2⟩ := g8.all
        obtain ⟨d3, d4, d5⟩ := g9.all
        obtain ⟨e0, e1, e2⟩ := g8.fz
        obtain ⟨e3, e4, e5⟩ := g9.fz
        cases c with
        | true =>
          gi_wp2
          rw [HQQ.out]
          refine ⟨_, _, rfl, by rw [← HC.out], ?_⟩
          unfold lead other
          rw [← HC.out]
          have z1 := (Array.getElem?_eq_some_iff.1 hR.m1).1
          have hk : ∀ k, k ≠ b8 → k ≠ b9 → (putL (putL W2 b8 y.l) b9 y.r).heap[k]? = W2.heap[k]? := fun k q8 q9 => (putL_other _ _ q9).trans (putL_other _ _ q8)
          have q8 : LnB (putL (putL W2 b8 y.l) b9 y.r) b8 y.l := (putL_other _ _ hne).trans (g8.put y.l)
          have q9 : LnB (putL (putL W2 b8 y.l) b9 y.r) b9 y.r := LnB.put (l := y.l) ((putL_other _ _ (Ne.symm hne)).trans g9) y.r
          have y2 := y1.below hB12.out
          have hR2 := hR1.more hn1 hB12.out
          have hv2 : Boxed W2 w2.heap.size 62 v := (hB12.out.block _ hv1.lt).trans hv1
          have hrow2 := hrow1.below hB12.out
          have hpb : RowKit.Below W.heap.size W2 (putL (putL W2 b8 y.l) b9 y.r) := (putL_below y.l l8).trans (putL_below y.r l9)
          exact ⟨q8, q9, (hk Bx (by omega) (by omega)).trans y2,
            ⟨(hk _ (by omega) (by omega)).trans hR2.m1, (hk _ (by omega) (by omega)).trans hR2.m2, (hk _ (by omega) (by omega)).trans hR2.m3, hR2.below.trans (hpb.mono hnW)⟩,
            (hk _ (by omega) (by omega)).trans hv2,
            (hrow2.other g8 (by decide) fun k q => putL_other _ _ q).other (b := b9) ((putL_other _ _ (Ne.symm hne)).trans g9) (by decide) fun k q => putL_other _ _ q,
            (hb1.trans (hB12.out.mono hb1.size)).trans hpb⟩
        | false =>
          gi_wp2
          rw [HQQ.out]
          refine ⟨_, _, rfl, by rw [← HC.out], ?_⟩
          unfold lead other
          rw [← HC.out]
          exact ⟨g8, g9, y1.below hB12.out, hR1.more hn1 hB12.out, (hB12.out.block _ hv1.lt).trans hv1, hrow1.below hB12.out, hb1.trans (hB12.out.mono hb1.size)⟩
      case k2 =>
        rw [HQQ.out]
        rintro e a' W2 ⟨u1, u2, rfl, rfl, g8, g9, y2, hR2, hv2, hrow2, hb2⟩
        have hl1 : (L.length + 1) * 32 ≤ 140737488355328 := by omega
        have hl2e : (L ++ [secAt y.f (lead y)]).length = L.length + 1 := by simp
        have hl2 : ((L ++ [secAt y.f (lead y)]).length + 1) * 32 ≤ 140737488355328 := by omega
        have hn2 : w.heap.size ≤ W2.heap.size := Nat.le_trans hnW hb2.size
        have z1 := (Array.getElem?_eq_some_iff.1 hR.m1).1
        have HB2' := Lib.hid hb2
        clear hb2
        have tI := turn_is okF
        obtain ⟨T, hT⟩ : ∃ T : Int, T = y.f + turnK y := ⟨_, rfl⟩
        have KT : Hid (∀ m w, CallsIn (Fence.wide.inRound l) m Try.prog 54 #[.agg #[.int .i64 y.f, .int .i64 y.u, .int .i64 y.l.b, .int .i64 y.l.r, .int .i64 y.l.d, .int .i64 y.r.b, .int .i64 y.r.r, .int .i64 y.r.d]] w fun e w' => e = .returned (.int .i64 T) ∧ RowKit.Below w.heap.size w w') :=
          fun m w => CallsIn.inRound l (callsIn_wide.2 (by have := turnS_any y w okF; rw [← hT] at this; exact this))
        have HT := Lib.hid hT
        clear hT tI
        obtain ⟨i0, i1, i2, i3, i4, i5, i6, i7⟩ := y2.all
        obtain ⟨j0, j1, j2⟩ := g8.all
        have hc2 := hv2.cell
        gi_wp2_with (first
        | (gi_at_builtin; refine listIn_appS rfl _ _ rfl w.heap.size v L rfl (hrow2.alloc _) W2.heap.size 1 (secAt y.f (lead y)) rfl (OneS.new W2 (secAt y.f (lead y)) _) hl1 (by simp; omega) (fun v' w' ho hg => ?_)
           obtain ⟨p3, n3, c3, rfl⟩ := ho.slice
           obtain ⟨hR3, hv3, hrow3, hk3, hb3, hvw⟩ := hR2.app hv2 hrow2 hn2 hn0 ⟨by omega, by omega, by omega⟩ ho hg
           have y3 : StB (w'.setCell ⟨w2.heap.size, 0, none⟩ (.slice p3 n3 c3)) Bx y := blk_app y2 (by decide) (by omega) hrow2 hg 
           have yw : StB w' Bx y := (y2.below ((Below.refl _ _).alloc (Nat.le_refl _) _)).grown (hrow2.below ((Below.refl _ _).alloc (Nat.le_refl _) _)) hg
           obtain ⟨i0', i1', i2', i3', i4', i5', i6', i7'⟩ := yw.all
           have o3 : LnB (w'.setCell ⟨w2.heap.size, 0, none⟩ (.slice p3 n3 c3)) b9 (other y) := blk_app g9 (by decide) (by omega) hrow2 hg 
           have hcw := hvw.cell
           have hfw : w'.frozen? ⟨w2.heap.size, 0, none⟩ = false := by simp [World.frozen?, show w'.heap[w2.heap.size]? = _ from hvw]))
        refine (KT.out _ _).mono ?_
        rintro _ W4 ⟨rfl, hb4⟩
        clear i0' i1' i2' i3' i4' i5' i6' i7' hcw hfw i0 i1 i2 i3 i4 i5 i6 i7 j0 j1 j2 hc2
        have y4 := y3.below hb4
        have o4 := o3.below hb4
        have hn3 := hR3.below.size
        have hR4 := hR3.more hn3 hb4
        have hv4 : Boxed W4 w2.heap.size 62 (.slice p3 n3 c3) := (hb4.block _ hv3.lt).trans hv3
        have hrow4 := hrow3.below hb4
        have hn4 : w.heap.size ≤ W4.heap.size := hR4.below.size
        have HK := Lib.hid ((((keeps_of_below HB2'.out).trans hk3).trans (keeps_of_below hb4)))
        have HBW := Lib.hid (((HB2'.out.mono hnW).trans hb3).trans (hb4.mono hn3))
        clear hb4 hb3 hk3
        have m1 := y4.all.2.1
        obtain ⟨j0, j1, j2⟩ := o4.all
        have hc4 := hv4.cell
        by_cases hTu : T < y.u
        · gi_wp2_with (first
          | (gi_at_builtin; refine listIn_appS rfl _ _ rfl w.heap.size (.slice p3 n3 c3) (L ++ [secAt y.f (lead y)]) rfl (hrow4.alloc _) W4.heap.size 1 (secAt T (other y)) rfl (OneS.new W4 (secAt T (other y)) _) hl2 (by simp; omega) (fun v5 w5 ho hg => ?_)
             obtain ⟨p5, n5, c5, rfl⟩ := ho.slice
             obtain ⟨hR5, hv5, hrow5, hk5, hb5, hvw⟩ := hR4.app hv4 hrow4 hn4 hn0 ⟨by omega, by omega, by omega⟩ ho hg
             have y5 : StB (w5.setCell ⟨w2.heap.size, 0, none⟩ (.slice p5 n5 c5)) Bx y := blk_app y4 (by decide) (by omega) hrow4 hg 
             have o5 : LnB (w5.setCell ⟨w2.heap.size, 0, none⟩ (.slice p5 n5 c5)) b9 (other y) := blk_app o4 (by decide) (by omega) hrow4 hg 
             have hcw := hvw.cell
             have hfw : w5.frozen? ⟨w2.heap.size, 0, none⟩ = false := by simp [World.frozen?, show w5.heap[w2.heap.size]? = _ from hvw]))
          refine HIN.out _ ⟨⟨(HK.out.trans hk5).from _, hR.kp hR5 (HBW.out.trans hb5)⟩, ⟨_, hv5, ?_⟩, hR5⟩ { tmps := #[], defers := [] }
          have e : leastSec y = [secAt y.f (lead y)] ++ [secAt T (other y)] := by unfold leastSec; rw [← HT.out, if_pos hTu]; rfl
          rw [e, ← List.append_assoc]
          exact hrow5
        · gi_wp2
          refine HIN.out _ ⟨⟨HK.out.from _, hR.kp hR4 HBW.out⟩, ⟨_, hv4, ?_⟩, hR4⟩ { tmps := #[], defers := [] }
          have e : leastSec y = [secAt y.f (lead y)] := by unfold leastSec; rw [← HT.out, if_neg (by omega)]
          rw [e]
          exact hrow4
  case done =>
    rintro D xs W hD rfl ⟨⟨v, hv, hrow⟩, hR⟩ hK
    have hl2 := least_len (strs g f 100000 N 0)
    rw [flat_fix (strs_ok HVg.out HVf.out (by omega) _ _ (by omega))] at hrow hl2
    have hAll := leastR_is HVf.out HVg.out hN
    have hlen := strs_len g f 100000 N 0
    have hne := strs_pos g f (show 0 < N by omega)
    have hl1 := least_len1 (strs g f 100000 N 0)
    have hok : ∀ s, s ∈ (strs g f 100000 N 0).flatMap leastSec → s.Ok := fun s hs => by
      obtain ⟨t, ht, hs⟩ := List.mem_flatMap.1 hs
      exact leastSec_ok (strs_ok HVg.out HVf.out (by omega) _ _ (by omega) t ht) s hs
    obtain ⟨L, hL⟩ : ∃ L, L = (strs g f 100000 N 0).flatMap leastSec := ⟨_, rfl⟩
    rw [← hL] at hrow hAll hok hl1 hl2
    clear hL
    have hrow0 := hrow
    rcases hrow.2 with ⟨rfl, h0⟩ | ⟨g0, cap, cur, rfl, hg0, hgb, _⟩
    · omega
    have KR := Lib.hid (fun m => (callsIn_wide (n := m)).2 (result_any L g0 L.length cap w.heap.size W hrow0 rfl hok (by omega)))
    have hcv := hv.cell
    have hDg : D ≠ g0 := fun e => by rw [e, hgb] at hK; cases hK
    have hKW := (Array.getElem?_eq_some_iff.1 hK).1
    have HB := Lib.hid hR.below
    have HG := Lib.hid hg0
    have HHK := Lib.hid hK
    have HA := Lib.hid hAll
    clear hrow hrow0 hok hR hK hg0 hgb hAll hv hN hlen hne hl1 hl2
    gi_wp2_with fail
    refine (KR.out _).mono ?_
    rintro _ W5 ⟨p, b, off, len, cap', rfl, hSl, hBut⟩
    gi_wp2
    have hK5 : W5.heap[D]? = some (.deferred (some [])) := (hBut.block D hKW (fun e => hDg (Option.some.inj e))).trans HHK.out
    refine ⟨by simp, .inl ⟨_, _, rfl, run_takeDeferred hK5, ?_⟩⟩
    have hbb := HB.out.trans (hBut.below HB.out.size HG.out)
    have hP := belowK_b (w := W0) HB4.out.size W5 D _ (.deferred none) hD hK5 rfl rfl
    have hE := HA.out
    rw [hE] at hSl
    refine ⟨.tuple #[.slice p len cap', .int .i64 (resR L).2], ?_, p, b, off, len, cap', by rw [hE], hSl.put hK5, hbb.trans hP⟩
    simp [results, Try.results21, go_sem]
  case stop =>
    rintro D c pre W _ _ h _
    exact h.elim
theorem least_any (f g : List RP) (pf pg : Option Addr) (bf of cf lf bg og cg lg : Nat) (w : World) (hS : SlP w pf bf of lf f) (hS' : SlP w pg bg og lg g) : Calls Try.prog 21 #[.slice pf lf cf, .slice pg lg cg] w fun e w' => OutP (RowKit.Below w.heap.size w) (opR f g (leastR f g)).1 (opR f g (leastR f g)).2 e w' := by
  by_cases hf : VR f
  · by_cases hg : VR g
    · rw [show opR f g (leastR f g) = leastR f g from if_pos ⟨hf, hg⟩]
      exact least_yes f g pf pg bf of cf lf bg og cg lg w hS hS' hf hg
    · rw [show opR f g (leastR f g) = ([], 1) from if_neg fun h => hg h.2]
      exact least_no2 f g pf pg bf of cf lf bg og cg lg w hS hS' (vR_iff.2 hf) (by rw [← Bool.not_eq_true]; exact fun h => hg (vR_iff.1 h))
  · rw [show opR f g (leastR f g) = ([], 1) from if_neg fun h => hf h.1]
    exact least_no1 f pf bf of cf lf _ w hS (by rw [← Bool.not_eq_true]; exact fun h => hf (vR_iff.1 h))
end Go.Proofs.Ytmjdolgcgbiajaa
