/-
  Contracts of everywhere, stretches and Add.
-/
import Derived.Test.YtmjdolgcgbiajaaPIter
import Derived.Test.YtmjdolgcgbiajaaPHeld
namespace Go.Proofs.Ytmjdolgcgbiajaa
open Go.RowKit Go.Shelf Pw

attribute [local go_sem] Oper.semAt_some

set_option maxRecDepth 100000 in
set_option maxHeartbeats 400000 in
theorem everywhere_any (w : World) : Calls Try.prog 40 #[] w fun e w' => e = .returned (.agg #[.int .i64 0, .int .i64 100000]) ∧ RowKit.Below w.heap.size w w' := by
  go_enter Try.func40, Try.ntmps40
  go_wp2
  exact bodyPost_ret (v := .agg #[.int .i64 0, .int .i64 100000]) (by simp [results, Try.results40, go_sem]) rfl ⟨rfl, (by repeat' (first | (with_reducible refine Below.setCell ?_ ?_ _) | (with_reducible refine Below.alloc ?_ ?_ _) | (with_reducible refine Below.drew ?_) | (with_reducible refine below_drewN ?_ _) | (with_reducible exact Below.refl _ _) | omega | (simp; done) | (simp; omega)))⟩
/-- The world behind stretches: both slices and the range in boxes. -/
def stW (w : World) (pf pg : Option Addr) (lf lg cf cg : Nat) (lo hi : Int) : World :=
  ((w.alloc (.cells #[.slice pf lf cf] 22)).alloc (.cells #[.slice pg lg cg] 22)).alloc (.cells #[.int .i64 lo, .int .i64 hi] 26)
set_option maxRecDepth 100000 in
set_option maxHeartbeats 400000 in
theorem stretches_any (pf pg : Option Addr) (lf lg cf cg : Nat) (lo hi : Int) (w : World) : Calls Try.prog 39 #[.slice pf lf cf, .slice pg lg cg, .agg #[.int .i64 lo, .int .i64 hi]] w fun e w' =>
    e = .returned (.func (.func 62) #[] #[.pointer (some ⟨w.heap.size + 1 + 1, 0, none⟩), .pointer (some ⟨w.heap.size, 0, none⟩), .pointer (some ⟨w.heap.size + 1, 0, none⟩)]) ∧ w' = stW w pf pg lf lg cf cg lo hi := by
  have hmf : ∀ (fn : Fn) (first cap : Array Value) (w : World), (Instr.makeFunc fn first cap).run Try.prog w = .ok (.func fn first cap) w := fun _ _ _ _ => rfl
  go_enter Try.func39, Try.ntmps39
  go_wp2
  go_ret
  exact ⟨rfl, rfl⟩
theorem stW_is (w : World) (pf pg : Option Addr) (lf lg cf cg : Nat) (lo hi : Int) : (stW w pf pg lf lg cf cg lo hi).heap.size = w.heap.size + 3 ∧ RowKit.Below w.heap.size w (stW w pf pg lf lg cf cg lo hi) ∧
    (stW w pf pg lf lg cf cg lo hi).heap[w.heap.size]? = some (.cells #[.slice pf lf cf] 22) ∧ (stW w pf pg lf lg cf cg lo hi).heap[w.heap.size + 1]? = some (.cells #[.slice pg lg cg] 22) ∧
    (stW w pf pg lf lg cf cg lo hi).heap[w.heap.size + 1 + 1]? = some (.cells #[.int .i64 lo, .int .i64 hi] 26) := by
  unfold stW
  refine ⟨by simp, (by repeat' (first | (with_reducible refine Below.setCell ?_ ?_ _) | (with_reducible refine Below.alloc ?_ ?_ _) | (with_reducible refine Below.drew ?_) | (with_reducible refine below_drewN ?_ _) | (with_reducible exact Below.refl _ _) | omega | (simp; done) | (simp; omega))), ?_, ?_, ?_⟩
  · rw [Below.heap_alloc _ _ _ (by simp; omega), Below.heap_alloc _ _ _ (by simp)]
    exact World.alloc_heap_new w _
  · rw [Below.heap_alloc _ _ _ (by simp)]
    have := World.alloc_heap_new (w.alloc (.cells #[.slice pf lf cf] 22)) (.cells #[.slice pg lg cg] 22)
    rwa [World.size_alloc] at this
  · have := World.alloc_heap_new ((w.alloc (.cells #[.slice pf lf cf] 22)).alloc (.cells #[.slice pg lg cg] 22)) (.cells #[.int .i64 lo, .int .i64 hi] 26)
    rwa [World.size_alloc, World.size_alloc] at this

def addR (f g : List RP) : List RP × Int := ((resA (addL (AA f) (AA g))).1.map toRP, (resA (addL (AA f) (AA g))).2)
open Classical in
noncomputable def opR (f g : List RP) (r : List RP × Int) : List RP × Int := if VR f ∧ VR g then r else ([], 1)

set_option maxRecDepth 100000 in
set_option maxHeartbeats 1000000 in
theorem add_no1 (f : List RP) (pf : Option Addr) (bf of cf lf : Nat) (gv : Value) (w : World) (hS : SlP w pf bf of lf f) (hv : vR f = false) : Calls Try.prog 16 #[.slice pf lf cf, gv] w fun e w' => OutP (RowKit.Below w.heap.size w) [] 1 e w' := by
  have K := Lib.hid (fun w' (h : RowKit.Below w.heap.size w w') => valid_sl f pf bf of cf lf w' (hS.below h))
  rw [hv] at K
  clear hS hv
  go_enter Try.func16, Try.ntmps16
  go_wp2_with fail
  refine (K.out _ (Below.refl _ _)).mono ?_
  rintro _ w1 ⟨rfl, hb⟩
  have HB := Lib.hid hb
  clear hb
  go_wp2
  go_ret2
  exact OutP.bad HB.out
set_option maxRecDepth 100000 in
set_option maxHeartbeats 1000000 in
theorem add_no2 (f g : List RP) (pf pg : Option Addr) (bf of cf lf bg og cg lg : Nat) (w : World) (hS : SlP w pf bf of lf f) (hS' : SlP w pg bg og lg g) (hv : vR f = true) (hv' : vR g = false) : Calls Try.prog 16 #[.slice pf lf cf, .slice pg lg cg] w fun e w' => OutP (RowKit.Below w.heap.size w) [] 1 e w' := by
  have K := Lib.hid (fun w' (h : RowKit.Below w.heap.size w w') => valid_sl f pf bf of cf lf w' (hS.below h))
  have K' := Lib.hid (fun w' (h : RowKit.Below w.heap.size w w') => valid_sl g pg bg og cg lg w' (hS'.below h))
  rw [hv] at K
  rw [hv'] at K'
  clear hS hv hS' hv'
  go_enter Try.func16, Try.ntmps16
  go_wp2_with fail
  refine (K.out _ (Below.refl _ _)).mono ?_
  rintro _ w1 ⟨rfl, hb⟩
  have HB := Lib.hid hb
  clear hb
  go_wp2_with fail
  refine (K'.out _ HB.out).mono ?_
  rintro _ w2 ⟨rfl, hb⟩
  have HB2 := Lib.hid (HB.out.trans (hb.mono HB.out.size))
  clear hb
  go_wp2
  go_ret2
  exact OutP.bad HB2.out

theorem blk_own {β : Type} (b : Nat) (o : Obj) (ho : o.isCells = true) : Own (fun (_ : β) W => W.heap[b]? = some o) := by
  intro s A B row hs hg hr
  have hlt := (Array.getElem?_eq_some_iff.1 hs).1
  rw [hg.block b hlt fun e => ?_]
  · exact hs
  · obtain ⟨o', h1, h2⟩ := hr b e.symm
    rw [hs] at h1
    cases h1
    rw [ho] at h2
    cases h2
theorem strs_len (l r : List RP) (hi : Int) : ∀ (n : Nat) (x : Int), (strs l r hi n x).length ≤ n
  | 0, _ => Nat.le_refl _
  | n + 1, x => by
    rw [strs]
    have := strs_len l r hi n (stA l r hi x).u
    split <;> simp <;> omega

/-- What the loops over stretches keep in memory: the range and both slices in their boxes. -/
structure Rm (w W : World) (n₀ B1 B2 B3 : Nat) (lo hi : Int) (pf pg : Option Addr) (lf lg cf cg : Nat) : Prop where
  m1 : W.heap[B1]? = some (.cells #[.int .i64 lo, .int .i64 hi] 26 (0, 0))
  m2 : W.heap[B2]? = some (.cells #[.slice pf lf cf] 22 (0, 0))
  m3 : W.heap[B3]? = some (.cells #[.slice pg lg cg] 22 (0, 0))
  below : RowKit.Below n₀ w W
theorem Rm.ownFrom {β : Type} {w : World} {n₀ B1 B2 B3 B : Nat} {lo hi : Int} {pf pg : Option Addr} {lf lg cf cg : Nat} (hn : n₀ ≤ w.heap.size) (hB : n₀ ≤ B) : OwnFrom B (fun (_ : β) W => Rm w W n₀ B1 B2 B3 lo hi pf pg lf lg cf cg) := fun s X Y row h hg hr =>
  ⟨(blk_own B1 _ rfl).from B s X Y row h.m1 hg hr, (blk_own B2 _ rfl).from B s X Y row h.m2 hg hr, (blk_own B3 _ rfl).from B s X Y row h.m3 hg hr, ownFrom_below hn hB s X Y row h.below hg hr⟩
theorem Rm.more {w W W' : World} {n₀ B1 B2 B3 : Nat} {lo hi : Int} {pf pg : Option Addr} {lf lg cf cg : Nat} (h : Rm w W n₀ B1 B2 B3 lo hi pf pg lf lg cf cg) (hn : n₀ ≤ W.heap.size) (k : RowKit.Below W.heap.size W W') : Rm w W' n₀ B1 B2 B3 lo hi pf pg lf lg cf cg := by
  have old : ∀ {b : Nat} {_o : Obj}, W.heap[b]? = some _o → W'.heap[b]? = some _o := fun hb => (k.block _ (Array.getElem?_eq_some_iff.1 hb).1).trans hb
  exact ⟨old h.m1, old h.m2, old h.m3, h.below.trans (k.mono hn)⟩
theorem Rm.kp {w W W' : World} {n₀ B1 B2 B3 : Nat} {lo hi : Int} {pf pg : Option Addr} {lf lg cf cg : Nat} (h : Rm w W n₀ B1 B2 B3 lo hi pf pg lf lg cf cg) (h' : Rm w W' n₀ B1 B2 B3 lo hi pf pg lf lg cf cg) (k : RowKit.Below n₀ W W') : KpB n₀ B1 B2 B3 W W' :=
  ⟨k, fun b hb => by rcases hb with rfl | rfl | rfl
                     · rw [h.m1, h'.m1]
                     · rw [h.m2, h'.m2]
                     · rw [h.m3, h'.m3]⟩
theorem keeps_of_below {w w' : World} (h : RowKit.Below w.heap.size w w') : KeepsOthers w w' := ⟨h.size, fun k _ ho _ => (h.block k (Array.getElem?_eq_some_iff.1 ho).1).trans ho⟩
/-- A block of another type lies as it lay behind an append onto the sections and a store into their box. -/
theorem blk_app {W w1 : World} {n₀ b B : Nat} {cs : Array Value} {T : TypeId} {tmp : Obj} {v v' : Value} {L : List SP} (h : W.heap[b]? = some (.cells cs T (0, 0))) (hT : T ≠ 71) (hb : b ≠ B) (hrow : OwnS W n₀ v L) (hg : (W.alloc tmp).grownBy w1 v.ownBlock) :
    (w1.setCell ⟨B, 0, none⟩ v').heap[b]? = some (.cells cs T (0, 0)) := by
  have hlt := (Array.getElem?_eq_some_iff.1 h).1
  rw [heap_setCell_other w1 ⟨B, 0, none⟩ b v' hb, hg.block b (by simp; omega) fun e => ?_, Below.heap_alloc _ _ _ hlt]
  · exact h
  · rcases hrow.2 with ⟨rfl, _⟩ | ⟨g, cap, cur, rfl, _, hgb, _⟩
    · cases e
    · obtain rfl : b = g := by simpa [Value.ownBlock] using e
      rw [h] at hgb
      injection hgb with h1
      injection h1 with _ h2
      exact hT h2
/-- An append onto the sections and the store back: what it leaves. -/
theorem Rm.app {w W w1 : World} {n₀ B1 B2 B3 B : Nat} {lo hi : Int} {pf pg : Option Addr} {lf lg cf cg : Nat} {tmp : Obj} {v v' : Value} {L L' : List SP} (h : Rm w W n₀ B1 B2 B3 lo hi pf pg lf lg cf cg) (hv : Boxed W B 62 v) (hrow : OwnS W n₀ v L) (hn : n₀ ≤ W.heap.size) (hB : n₀ ≤ B)
    (hb : B1 ≠ B ∧ B2 ≠ B ∧ B3 ≠ B) (hown : OwnS w1 n₀ v' L') (hg : (W.alloc tmp).grownBy w1 v.ownBlock) :
    Rm w (w1.setCell ⟨B, 0, none⟩ v') n₀ B1 B2 B3 lo hi pf pg lf lg cf cg ∧ Boxed (w1.setCell ⟨B, 0, none⟩ v') B 62 v' ∧ OwnS (w1.setCell ⟨B, 0, none⟩ v') n₀ v' L' ∧ KeepsOthers W (w1.setCell ⟨B, 0, none⟩ v') ∧ RowKit.Below n₀ W (w1.setCell ⟨B, 0, none⟩ v') ∧ Boxed w1 B 62 v := by
  obtain ⟨h1, h2, h3, h4, h5⟩ := hv.appended (by decide) hrow hn hB hown hg
  exact ⟨⟨blk_app h.m1 (by decide) hb.1 hrow hg, blk_app h.m2 (by decide) hb.2.1 hrow hg, blk_app h.m3 (by decide) hb.2.2 hrow hg, h.below.trans h5⟩, h2, h3, h4, h5, h1⟩
/-- The sections of a loop, in their box. -/
def Secs (W : World) (n₀ B : Nat) (L : List SP) : Prop := ∃ v, Boxed W B 62 v ∧ OwnS W n₀ v L
theorem Secs.ownFrom {β : Type} {n₀ B D : Nat} {L : β → List SP} : OwnFrom D (fun (s : β) W => Secs W n₀ B (L s)) :=
  Own.from (fun s X Y row ⟨v, hv, hr⟩ hg hrow => by
    obtain ⟨v, h1, h2, _⟩ := holdsRow_own n₀ B 62 71 4 (fun s => (L s).length) (fun s => flS (L s)) (fun _ _ => True) s X Y row ⟨v, hv, hr, trivial⟩ hg hrow
    exact ⟨v, h1, h2⟩) D
theorem Secs.more {W W' : World} {n₀ B : Nat} {L : List SP} (h : Secs W n₀ B L) (k : RowKit.Below W.heap.size W W') : Secs W' n₀ B L := by
  obtain ⟨v, h1, h2⟩ := h
  exact ⟨v, (k.block B h1.lt).trans h1, h2.below k⟩

theorem OwnS.slice {w : World} {base : Nat} {v : Value} {L : List SP} (h : OwnS w base v L) : ∃ p n c, v = .slice p n c := by
  rcases h.2 with ⟨rfl, _⟩ | ⟨g, cap, cur, rfl, _⟩ <;> exact ⟨_, _, _, rfl⟩
/-- A stretch in its box. -/
def StB (W : World) (b : Nat) (y : ST) : Prop := W.heap[b]? = some (.cells #[.int .i64 y.f, .int .i64 y.u, .int .i64 y.l.b, .int .i64 y.l.r, .int .i64 y.l.d, .int .i64 y.r.b, .int .i64 y.r.r, .int .i64 y.r.d] 68 (0, 0))
theorem StB.all {W : World} {b : Nat} {y : ST} (h : StB W b y) : W.cell? ⟨b, 0, none⟩ = some (.int .i64 y.f) ∧ W.cell? ⟨b, 1, none⟩ = some (.int .i64 y.u) ∧ W.cell? ⟨b, 2, none⟩ = some (.int .i64 y.l.b) ∧ W.cell? ⟨b, 3, none⟩ = some (.int .i64 y.l.r) ∧ W.cell? ⟨b, 4, none⟩ = some (.int .i64 y.l.d) ∧
    W.cell? ⟨b, 5, none⟩ = some (.int .i64 y.r.b) ∧ W.cell? ⟨b, 6, none⟩ = some (.int .i64 y.r.r) ∧ W.cell? ⟨b, 7, none⟩ = some (.int .i64 y.r.d) := by
  unfold StB at h
  refine ⟨?_, ?_, ?_, ?_, ?_, ?_, ?_, ?_⟩ <;> simp [World.cell?, h]
theorem StB.below {W W' : World} {b : Nat} {y : ST} (h : StB W b y) (k : RowKit.Below W.heap.size W W') : StB W' b y := (k.block b (Array.getElem?_eq_some_iff.1 h).1).trans h
theorem StB.lt {W : World} {b : Nat} {y : ST} (h : StB W b y) : b < W.heap.size := (Array.getElem?_eq_some_iff.1 h).1
theorem StB.set {W : World} {b B : Nat} {y : ST} (h : StB W b y) (hb : b ≠ B) (v : Value) : StB (W.setCell ⟨B, 0, none⟩ v) b y := (heap_setCell_other W ⟨B, 0, none⟩ b v hb).trans h
theorem StB.grown {W w1 : World} {n₀ b : Nat} {y : ST} {v : Value} {L : List SP} (h : StB W b y) (hrow : OwnS W n₀ v L) (hg : W.grownBy w1 v.ownBlock) : StB w1 b y := by
  unfold StB at h ⊢
  rw [hg.block b (Array.getElem?_eq_some_iff.1 h).1 fun e => ?_]
  · exact h
  · rcases hrow.2 with ⟨rfl, _⟩ | ⟨g, cap, cur, rfl, _, hgb, _⟩
    · cases e
    · obtain rfl : b = g := by simpa [Value.ownBlock] using e
      rw [h] at hgb
      injection hgb with h1
      injection h1 with _ h2
      exact absurd h2 (by decide)

theorem SlP.put {w : World} {p : Option Addr} {b off len D : Nat} {l : List RP} (h : SlP w p b off len l) (hK : w.heap[D]? = some (.deferred (some []))) : SlP (w.putObj D (.deferred none)) p b off len l := by
  have c : ∀ {q : Addr} {v : Value}, w.cell? q = some v → (w.putObj D (.deferred none)).cell? q = some v := fun hq => cell_kept hq (grownBy_putObj' _ D (.deferred none)) (fun r e => by cases e; exact ⟨_, hK, rfl⟩)
  refine ⟨h.ln, h.ptr, fun k hk => ?_, fun x => by simpa using h.lt x, h.max, h.num⟩
  obtain ⟨c0, c1, c2, c3, c4⟩ := h.cells k hk
  exact ⟨c c0, c c1, c c2, c c3, c c4⟩
theorem strs_pos (l r : List RP) : ∀ {n : Nat}, 0 < n → 0 < (strs l r 100000 n 0).length
  | 0, h => absurd h (by omega)
  | n + 1, _ => by rw [strs, if_pos (by omega)]; simp
theorem strs_ok {l r : List RP} (hl : VR l) (hr : VR r) {hi : Int} (h2 : hi ≤ 100000) : ∀ (n : Nat) (x : Int), 0 ≤ x → ∀ s, s ∈ strs l r hi n x → s.Ok
  | 0, _, _, s, hs => by cases hs
  | n + 1, x, h0, s, hs => by
    rw [strs] at hs
    split at hs
    · rename_i h1
      have ok := stA_ok hl hr h0 h1 h2
      rcases List.mem_cons.1 hs with rfl | hs
      · exact ok
      · have h3 := ok.fu
        exact strs_ok hl hr h2 n _ (Int.le_trans h0 (Int.le_of_lt h3)) s hs
    · cases hs
theorem resR_A {L : List SP} (h : ∀ s, s ∈ L → s.Ok) : resR L = ((resA (L.map SP.A)).1.map toRP, (resA (L.map SP.A)).2) := by
  unfold resR resA
  have e : (redS L).map (fun s => rpO s.A) = (red (L.map SP.A)).map rpO := by
    rw [← redS_A (fun s hs => (h s hs).2.2.2.2.1), List.map_map]
    rfl
  rw [e, chR_map]
theorem addR_is {f g : List RP} (hf : VR f) (hg : VR g) {N : Nat} (hN : N = 100001) : resR ((strs f g 100000 N 0).map addSec) = addR f g := by
  have h := add_strs hf hg N 0 (.inr ⟨by omega, by simp [isS, hf.va.zero]⟩) (by omega)
  simp only [ps, List.map_nil, List.nil_append, Int.natCast_zero] at h
  rw [resR_A, List.map_map]
  · unfold addR
    rw [← h]
    rfl
  · intro s hs
    obtain ⟨t, ht, rfl⟩ := List.mem_map.1 hs
    exact addSec_ok (strs_ok hf hg (by omega) _ _ (by omega) t ht)
theorem map_fix {L : List ST} (h : ∀ s, s ∈ L → s.Ok) {α : Type} (k : ST → α) : L.map (fun x => k (fix x)) = L.map k := List.map_congr_left fun s hs => by rw [fix_eq (h s hs)]

set_option maxRecDepth 100000 in
set_option maxHeartbeats 4000000 in
theorem add_yes (f g : List RP) (pf pg : Option Addr) (bf of cf lf bg og cg lg : Nat) (w : World) (hS : SlP w pf bf of lf f) (hS' : SlP w pg bg og lg g) (hf : VR f) (hg : VR g) : Calls Try.prog 16 #[.slice pf lf cf, .slice pg lg cg] w fun e w' => OutP (RowKit.Below w.heap.size w) (addR f g).1 (addR f g).2 e w' := by
  obtain ⟨N, hN⟩ : ∃ N : Nat, N = 100001 := ⟨_, rfl⟩
  have HS := Lib.hid hS
  have HS' := Lib.hid hS'
  have HVf := Lib.hid hf
  have HVg := Lib.hid hg
  have K := Lib.hid (fun m w' (h : RowKit.Below w.heap.size w w') => (callsIn_wide (n := m)).2 (valid_sl f pf bf of cf lf w' (hS.below h)))
  have K' := Lib.hid (fun m w' (h : RowKit.Below w.heap.size w w') => (callsIn_wide (n := m)).2 (valid_sl g pg bg og cg lg w' (hS'.below h)))
  rw [vR_iff.2 hf] at K
  rw [vR_iff.2 hg] at K'
  have KE := Lib.hid (fun m w => (callsIn_wide (n := m)).2 (everywhere_any w))
  have KS := Lib.hid (fun m w => (callsIn_wide (n := m)).2 (stretches_any pf pg lf lg cf cg 0 100000 w))
  clear hS hS' hf hg
  refine (callsIn_wide (n := 6)).1 ?_
  refine callsIn_of_wp_marks Try.func16 rfl trivial ?_ rfl
  simp only [Try.ntmps16, List.size_toArray, List.length_cons, List.length_nil, Nat.reduceAdd, Nat.reduceSub, Array.replicate_succ, Array.replicate_zero, List.push_toArray, List.append_toArray, List.nil_append, List.cons_append]
  have hfn : ∀ k, Fence.wide.fn k = True := fun _ => rfl
  have hdp : Fence.wide.depth.isSome = false := rfl
  gi_wp2_with fail
  refine (K.out _ _ (Below.refl _ _)).mono ?_
  rintro _ w1 ⟨rfl, hb⟩
  have HB1 := Lib.hid hb
  clear hb
  gi_wp2_with fail
  refine (K'.out _ _ HB1.out).mono ?_
  rintro _ w2 ⟨rfl, hb⟩
  have HB2 := Lib.hid (HB1.out.trans (hb.mono HB1.out.size))
  clear hb HB1
  gi_wp2_with fail
  refine (KE.out _ _).mono ?_
  rintro _ w3 ⟨rfl, hb⟩
  have hbx : (w2.alloc (.cells #[.slice none 0 0] 62)).heap[w2.heap.size]? = some (.cells #[.slice none 0 0] 62) := World.alloc_heap_new w2 _
  have hbox := (hb.block w2.heap.size (by simp)).trans hbx
  have hz3 : w2.heap.size < w3.heap.size := by have := hb.size; simp at this; omega
  have HB3 := Lib.hid ((HB2.out.alloc HB2.out.size (.cells #[.slice none 0 0] 62)).trans (hb.mono (by have := HB2.out.size; simp; omega)))
  clear hb hbx
  gi_wp2_with fail
  refine (KS.out _ _).mono ?_
  rintro _ w4 ⟨rfl, hw4⟩
  gi_wp2_with fail
  obtain ⟨hz4, hb4, x2, x3, x1⟩ := stW_is w3 pf pg lf lg cf cg 0 100000
  have HB4 := Lib.hid (HB3.out.trans (hb4.mono HB3.out.size))
  have hbox4 : Boxed (stW w3 pf pg lf lg cf cg 0 100000) w2.heap.size 62 (.slice none 0 0) := (hb4.block _ hz3).trans hbox
  obtain ⟨W0, hW0⟩ : ∃ W0, W0 = stW w3 pf pg lf lg cf cg 0 100000 := ⟨_, rfl⟩
  rw [← hW0] at hz4 x1 x2 x3 hbox4 HB4 ⊢
  have hn0 : w.heap.size ≤ w2.heap.size := HB2.out.size
  have hRm : Rm w W0 w.heap.size (w3.heap.size + 1 + 1) w3.heap.size (w3.heap.size + 1) 0 100000 pf pg lf lg cf cg := ⟨x1, x2, x3, HB4.out⟩
  have hIt : ItMem W0 w.heap.size (w3.heap.size + 1 + 1) w3.heap.size (w3.heap.size + 1) 0 100000 f g pf pg bf bg of og lf lg cf cg :=
    ⟨by simp [World.cell?, x1], by simp [World.cell?, x1], by simp [World.cell?, x2], by simp [World.cell?, x3], HS.out.below HB4.out, HS'.out.below HB4.out, HS.out.lt, HS'.out.lt⟩
  clear hW0 hw4 hb4 hbox x1 x2 x3 K K' KE KS
  refine wpIn_rangeFunc_ownH (F := Fence.wide) rfl (by omega) (gf := 62) (lb := #[.pointer (some ⟨w3.heap.size + 1 + 1, 0, none⟩), .pointer (some ⟨w3.heap.size, 0, none⟩), .pointer (some ⟨w3.heap.size + 1, 0, none⟩)]) rfl trivial (enters_of Try.func62 (by kernel_rfl) rfl)
    (iter_stops (6 - 1) w.heap.size (w3.heap.size + 1 + 1) w3.heap.size (w3.heap.size + 1) 0 100000 f g pf pg bf bg of og lf lg cf cg N W0 hIt (by omega) HVf.out HVg.out (by omega) (by omega) (by omega) (by omega))
    (fun h k => KpB.trans h k) (fun W l o o' hl h ho hw => ⟨belowK_b (w := W0) (by omega) W l o o' hl h ho hw, fun b hb => World.putObj_heap_other (by omega)⟩) (Below.refl _ _) (fun _ => rfl)
    (fun pre W => Secs W w.heap.size w2.heap.size (pre.map fun x => addSec (fix x)) ∧ Rm w W w.heap.size (w3.heap.size + 1 + 1) w3.heap.size (w3.heap.size + 1) 0 100000 pf pg lf lg cf cg)
    (fun _ _ _ => False)
    (OwnFrom.and Secs.ownFrom (Rm.ownFrom (Nat.le_refl _) (by omega)))
    (fun _ _ _ _ _ hs _ _ => hs)
    ⟨⟨_, hbox4, OwnS.empty _ _⟩, hRm⟩
    (fun x a' W => ∃ Bx, W0.heap.size ≤ Bx ∧ W.heap[Bx]? = some (.cells #[.int .i64 (fix x).f, .int .i64 (fix x).u, .int .i64 (fix x).l.b, .int .i64 (fix x).l.r, .int .i64 (fix x).l.d, .int .i64 (fix x).r.b, .int .i64 (fix x).r.r, .int .i64 (fix x).r.d] 68 (0, 0)) ∧
      a' = { tmps := #[.slice pf lf cf, .slice pg lg cg, undef, undef, .slice none 0 0, .int .i64 0, .pointer (some ⟨w2.heap.size, 0, none⟩), .pointer (some ⟨Bx, 0, none⟩), .slice pf lf cf, .bool true, .bool false, .bool false, .slice pg lg cg, .bool true, .bool false, .bool false, .slice pf lf cf, .slice pg lg cg, .agg #[.int .i64 0, .int .i64 100000],
        .func (.func 62) #[] #[.pointer (some ⟨w3.heap.size + 1 + 1, 0, none⟩), .pointer (some ⟨w3.heap.size, 0, none⟩), .pointer (some ⟨w3.heap.size + 1, 0, none⟩)], (fix x).V, undef, undef, undef, undef, undef, undef, undef, undef, undef, undef, undef, undef, undef, undef, undef], defers := [] })
    (fun x a' _ X Y row hs hg hr => by obtain ⟨Bx, h1, h2, h3⟩ := hs; exact ⟨Bx, h1, blk_own Bx _ rfl () X Y row h2 hg (fun r e => (hr r e).2), h3⟩)
    ?assign ?body ?done ?stop
  case assign =>
    rintro l pre x W K ⟨hs, hR⟩ hK
    have hsz := hR.below.size
    have hWs := (Array.getElem?_eq_some_iff.1 hR.m1).1
    simp only [ST.V]
    gi_wp2
    refine hK _ _ ((KeepsOthers.alloc _ _).from _) ?_ ⟨hs.more ((Below.refl _ W).alloc (Nat.le_refl _) _), hR.more hsz ((Below.refl _ W).alloc (Nat.le_refl _) _)⟩ ⟨W.heap.size, ?_, World.alloc_heap_new W _, rfl⟩
    · exact hR.kp (hR.more hsz ((Below.refl _ W).alloc (Nat.le_refl _) _)) ((Below.refl _ W).alloc hsz _)
    · omega
  case body =>
    rintro l pre x a' W hl ⟨r, hr⟩ ⟨⟨v, hv, hrow⟩, hR⟩ ⟨Bx, hBx, bX, rfl⟩ hlt
    have okF := fix_ok x
    have hlen := strs_len f g 100000 N 0
    have hLen : ((pre.map fun x => addSec (fix x)).length + 1) * 32 ≤ 140737488355328 := by rw [List.length_map]; omega
    gi_wp2
    have hIn : ∀ W', (KeepsFrom W0.heap.size W W' ∧ KpB w.heap.size (w3.heap.size + 1 + 1) w3.heap.size (w3.heap.size + 1) W W') ∧ Secs W' w.heap.size w2.heap.size ((pre.map fun x => addSec (fix x)) ++ [addSec (fix x)]) ∧ Rm w W' w.heap.size (w3.heap.size + 1 + 1) w3.heap.size (w3.heap.size + 1) 0 100000 pf pg lf lg cf cg → ∀ a, ownPostG W0.heap.size (KpB w.heap.size (w3.heap.size + 1 + 1) w3.heap.size (w3.heap.size + 1))
        (fun pre W => Secs W w.heap.size w2.heap.size (pre.map fun x => addSec (fix x)) ∧ Rm w W w.heap.size (w3.heap.size + 1 + 1) w3.heap.size (w3.heap.size + 1) 0 100000 pf pg lf lg cf cg) (fun _ _ _ => False) (pre ++ [x]) W .normal a W' := by
      rintro W' ⟨⟨h1, h2⟩, h3, h4⟩ _
      exact ⟨h1, h2, by rw [List.map_append]; exact h3, h4⟩
    have HIN := Lib.hid hIn
    clear hIn
    have bY : StB W Bx (fix x) := bX
    clear bX
    generalize hy : fix x = y at *
    generalize hLs : (pre.map fun x => addSec (fix x)) = L at *
    clear hy hLs hlt hlen
    refine wpIn_region_of mixed (by kernel_rfl) (fun _ _ h => h) ?_
    refine wpAny_of_held (S := (fun w => w.cell? ⟨Bx, 0, none⟩ = some (.int .i64 y.f) ∧ w.cell? ⟨Bx, 1, none⟩ = some (.int .i64 y.u) ∧ w.cell? ⟨Bx, 2, none⟩ = some (.int .i64 y.l.b) ∧ w.cell? ⟨Bx, 3, none⟩ = some (.int .i64 y.l.r) ∧ w.cell? ⟨Bx, 4, none⟩ = some (.int .i64 y.l.d) ∧ w.cell? ⟨Bx, 5, none⟩ = some (.int .i64 y.r.b) ∧ w.cell? ⟨Bx, 6, none⟩ = some (.int .i64 y.r.r) ∧ w.cell? ⟨Bx, 7, none⟩ = some (.int .i64 y.r.d))) _ _ _ _ ?_
    have hd : RowKit.Below W.heap.size W W.drew := (Below.refl _ W).drew
    have hS1 := (bY.below hd).all
    have HK : ∀ W', KeepsOthers W.drew W' → KeepsFrom W0.heap.size W W' := fun W' k => ((keeps_of_below hd).trans k).from _
    have hR1 := hR.more hR.below.size hd
    have hv1 : Boxed W.drew w2.heap.size 62 v := (hd.block _ hv.lt).trans hv
    have hrow1 := hrow.below hd
    have bY1 := bY.below hd
    have hn1 : w.heap.size ≤ W.drew.heap.size := Nat.le_trans hR.below.size hd.size
    have hd0 := hd.mono hR.below.size
    generalize W.drew = W1 at *
    have hc1 := hv1.cell
    refine tk1 (v := ?_) (by kernel_rfl) (by kernel_rfl) (by kernel_rfl) (fun _ _ _ h => h) (Or.inl ⟨by rfl, ?_⟩) hS1 ?_
    rotate_left
    · (intro w hSw; (try dsimp only at hSw); go_simp; try with_reducible rfl)
    simp only [Act.put, List.setIfInBounds_toArray, List.set_cons_zero, List.set_cons_succ]
    refine tk2 (v := ?_) (by kernel_rfl) (by kernel_rfl) (by kernel_rfl) (fun _ _ _ h => h) (Or.inl ⟨by rfl, ?_⟩) hS1 ?_
    rotate_left
    · (intro w hSw; (try dsimp only at hSw); go_simp; try with_reducible rfl)
    simp only [Act.put, List.setIfInBounds_toArray, List.set_cons_zero, List.set_cons_succ]
    refine tk3 (v := ?_) (by kernel_rfl) (by kernel_rfl) (by kernel_rfl) (fun _ _ _ h => h) (Or.inl ⟨by rfl, ?_⟩) hS1 ?_
    rotate_left
    · (intro w hSw; (try dsimp only at hSw); go_simp; try with_reducible rfl)
    simp only [Act.put, List.setIfInBounds_toArray, List.set_cons_zero, List.set_cons_succ]
    refine tk4 (v := ?_) (by kernel_rfl) (by kernel_rfl) (by kernel_rfl) (fun _ _ _ h => h) (Or.inl ⟨by rfl, ?_⟩) hS1 ?_
    rotate_left
    · (intro w hSw; (try dsimp only at hSw); go_simp; try with_reducible rfl)
    simp only [Act.put, List.setIfInBounds_toArray, List.set_cons_zero, List.set_cons_succ]
    refine tk5 (v := ?_) (by kernel_rfl) (by kernel_rfl) (by kernel_rfl) (fun _ _ _ h => h) (Or.inl ⟨by rfl, ?_⟩) hS1 ?_
    rotate_left
    · (intro w hSw; (try dsimp only at hSw); go_simp; try with_reducible rfl)
    simp only [Act.put, List.setIfInBounds_toArray, List.set_cons_zero, List.set_cons_succ]
    refine tk6 (v := ?_) (by kernel_rfl) (by kernel_rfl) (by kernel_rfl) (fun _ _ _ h => h) (Or.inl ⟨by rfl, ?_⟩) hS1 ?_
    rotate_left
    · (intro w hSw; (try dsimp only at hSw); go_simp; try with_reducible rfl)
    simp only [Act.put, List.setIfInBounds_toArray, List.set_cons_zero, List.set_cons_succ]
    have lb := okF.l.b
    have lr := okF.l.r
    have ld := okF.l.d0
    have le := okF.l.d1
    have rb := okF.r.b
    have rr := okF.r.r
    have rd := okF.r.d0
    have re := okF.r.d1
    refine wpAnyH_ready (rs := [0, 7]) (by kernel_rfl) (by simp) (st0 (fun K hK => ?_) (st7 (fun K hK => ?_) AllReadyH.nil))
    · go_simp
      refine hK.out _ _ ?_ (fun hHeld => ?_)
      · exact bY1.all
      clear hK K
      try simp only [Act.put, List.setIfInBounds_toArray, List.set_cons_zero, List.set_cons_succ]
      refine wpAnyH_ready (rs := [7]) (by kernel_rfl) (by simp) (st7 (fun K hK => ?_) AllReadyH.nil)
      go_simp
      refine (plus_any _ _ _ _ _ _ _ (by omega) (by omega) (by omega) (by omega) (by omega) (by omega)).mono ?_
      rintro _ W2 ⟨rfl, hb2⟩
      go_wp2_with fail
      have bY2 := bY1.below hb2
      have hR2 := hR1.more hn1 hb2
      have hv2 : Boxed W2 w2.heap.size 62 v := (hb2.block _ hv1.lt).trans hv1
      have hrow2 := hrow1.below hb2
      have hn2 : w.heap.size ≤ W2.heap.size := Nat.le_trans hn1 hb2.size
      have hc2 := hv2.cell
      have hc3 : ∀ o, (W2.alloc o).cell? ⟨w2.heap.size, 0, none⟩ = some v := fun o => Boxed.cell (t := 62) ((((Below.refl _ W2).alloc (Nat.le_refl _) o).block _ hv2.lt).trans hv2)
      refine hK.out _ _ ?_ (fun hHeld => ?_)
      · exact bY2.all
      clear hK K
      try simp only [Act.put, List.setIfInBounds_toArray, List.set_cons_zero, List.set_cons_succ]
      refine tk8 (v := ?_) (by kernel_rfl) (by kernel_rfl) (by kernel_rfl) (fun _ _ _ h => h) (Or.inl ⟨by rfl, ?_⟩) hHeld ?_
      rotate_left
      · (intro w hSw; (try dsimp only at hSw); go_simp; try with_reducible rfl)
      simp only [Act.put, List.setIfInBounds_toArray, List.set_cons_zero, List.set_cons_succ]
      refine wpAnyH_ready (rs := [9]) (by kernel_rfl) (by simp) (st9 (fun K hK => ?_) AllReadyH.nil)
      go_simp
      refine hK.out _ _ ?_ (fun hHeld => ?_)
      · exact (bY2.below ((Below.refl _ W2).alloc (Nat.le_refl _) _)).all
      clear hK K
      try simp only [Act.put, List.setIfInBounds_toArray, List.set_cons_zero, List.set_cons_succ]
      refine wpAnyH_ready (rs := [10]) (by kernel_rfl) (by simp) (st10 (fun K hK => ?_) AllReadyH.nil)
      refine step_appS rfl (.tmp 21) (.tmp 30) rfl w.heap.size v L rfl (hrow2.below ((Below.refl _ W2).alloc (Nat.le_refl _) _)) W2.heap.size 1 (addSec y) rfl (OneS.new W2 (addSec y) _) hLen ?_ (fun v' w' ho hg => ?_)
      · simp; omega
      obtain ⟨p', n', c', rfl⟩ := ho.slice
      have hg' := hg
      obtain ⟨hR3, hv3, hrow3, hk3, hb3, hvw⟩ := hR2.app hv2 hrow2 hn2 hn0 ⟨by omega, by omega, by omega⟩ ho hg
      have bY3 := (bY2.below ((Below.refl _ W2).alloc (Nat.le_refl _) _)).grown (hrow2.below ((Below.refl _ W2).alloc (Nat.le_refl _) _)) hg'
      have hcw := hvw.cell
      have hfw : w'.frozen? ⟨w2.heap.size, 0, none⟩ = false := by simp [World.frozen?, show w'.heap[w2.heap.size]? = _ from hvw]
      refine hK.out _ _ ?_ (fun hHeld => ?_)
      · exact bY3.all
      clear hK K
      try simp only [Act.put, List.setIfInBounds_toArray, List.set_cons_zero, List.set_cons_succ]
      refine wpAnyH_ready (rs := [11]) (by kernel_rfl) (by simp) (st11 (fun K hK => ?_) AllReadyH.nil)
      go_simp
      refine hK.out _ _ ?_ (fun hHeld => ?_)
      · exact (bY3.set (by omega) _).all
      clear hK K
      try simp only [Act.put, List.setIfInBounds_toArray, List.set_cons_zero, List.set_cons_succ]
      refine wpAnyH_done (by kernel_rfl) ?_ _
      refine HIN.out _ ⟨⟨HK _ ((keeps_of_below hb2).trans hk3), ?_⟩, ⟨_, hv3, hrow3⟩, hR3⟩ { tmps := #[], defers := [] }
      exact hR.kp hR3 ((hd0.trans (hb2.mono hn1)).trans hb3)
    · go_simp
      refine (plus_any _ _ _ _ _ _ _ (by omega) (by omega) (by omega) (by omega) (by omega) (by omega)).mono ?_
      rintro _ W2 ⟨rfl, hb2⟩
      go_wp2_with fail
      have bY2 := bY1.below hb2
      have hR2 := hR1.more hn1 hb2
      have hv2 : Boxed W2 w2.heap.size 62 v := (hb2.block _ hv1.lt).trans hv1
      have hrow2 := hrow1.below hb2
      have hn2 : w.heap.size ≤ W2.heap.size := Nat.le_trans hn1 hb2.size
      have hc2 := hv2.cell
      have hc3 : ∀ o, (W2.alloc o).cell? ⟨w2.heap.size, 0, none⟩ = some v := fun o => Boxed.cell (t := 62) ((((Below.refl _ W2).alloc (Nat.le_refl _) o).block _ hv2.lt).trans hv2)
      refine hK.out _ _ ?_ (fun hHeld => ?_)
      · exact bY2.all
      clear hK K
      try simp only [Act.put, List.setIfInBounds_toArray, List.set_cons_zero, List.set_cons_succ]
      refine tk8 (v := ?_) (by kernel_rfl) (by kernel_rfl) (by kernel_rfl) (fun _ _ _ h => h) (Or.inl ⟨by rfl, ?_⟩) hHeld ?_
      rotate_left
      · (intro w hSw; (try dsimp only at hSw); go_simp; try with_reducible rfl)
      simp only [Act.put, List.setIfInBounds_toArray, List.set_cons_zero, List.set_cons_succ]
      refine wpAnyH_ready (rs := [0, 9]) (by kernel_rfl) (by simp) (st0 (fun K hK => ?_) (st9 (fun K hK => ?_) AllReadyH.nil))
      · go_simp
        refine hK.out _ _ ?_ (fun hHeld => ?_)
        · exact bY2.all
        clear hK K
        try simp only [Act.put, List.setIfInBounds_toArray, List.set_cons_zero, List.set_cons_succ]
        refine wpAnyH_ready (rs := [9]) (by kernel_rfl) (by simp) (st9 (fun K hK => ?_) AllReadyH.nil)
        go_simp
        refine hK.out _ _ ?_ (fun hHeld => ?_)
        · exact (bY2.below ((Below.refl _ W2).alloc (Nat.le_refl _) _)).all
        clear hK K
        try simp only [Act.put, List.setIfInBounds_toArray, List.set_cons_zero, List.set_cons_succ]
        refine wpAnyH_ready (rs := [10]) (by kernel_rfl) (by simp) (st10 (fun K hK => ?_) AllReadyH.nil)
        refine step_appS rfl (.tmp 21) (.tmp 30) rfl w.heap.size v L rfl (hrow2.below ((Below.refl _ W2).alloc (Nat.le_refl _) _)) W2.heap.size 1 (addSec y) rfl (OneS.new W2 (addSec y) _) hLen ?_ (fun v' w' ho hg => ?_)
        · simp; omega
        obtain ⟨p', n', c', rfl⟩ := ho.slice
        have hg' := hg
        obtain ⟨hR3, hv3, hrow3, hk3, hb3, hvw⟩ := hR2.app hv2 hrow2 hn2 hn0 ⟨by omega, by omega, by omega⟩ ho hg
        have bY3 := (bY2.below ((Below.refl _ W2).alloc (Nat.le_refl _) _)).grown (hrow2.below ((Below.refl _ W2).alloc (Nat.le_refl _) _)) hg'
        have hcw := hvw.cell
        have hfw : w'.frozen? ⟨w2.heap.size, 0, none⟩ = false := by simp [World.frozen?, show w'.heap[w2.heap.size]? = _ from hvw]
        refine hK.out _ _ ?_ (fun hHeld => ?_)
        · exact bY3.all
        clear hK K
        try simp only [Act.put, List.setIfInBounds_toArray, List.set_cons_zero, List.set_cons_succ]
        refine wpAnyH_ready (rs := [11]) (by kernel_rfl) (by simp) (st11 (fun K hK => ?_) AllReadyH.nil)
        go_simp
        refine hK.out _ _ ?_ (fun hHeld => ?_)
        · exact (bY3.set (by omega) _).all
        clear hK K
        try simp only [Act.put, List.setIfInBounds_toArray, List.set_cons_zero, List.set_cons_succ]
        refine wpAnyH_done (by kernel_rfl) ?_ _
        refine HIN.out _ ⟨⟨HK _ ((keeps_of_below hb2).trans hk3), ?_⟩, ⟨_, hv3, hrow3⟩, hR3⟩ { tmps := #[], defers := [] }
        exact hR.kp hR3 ((hd0.trans (hb2.mono hn1)).trans hb3)
      · go_simp
        refine hK.out _ _ ?_ (fun hHeld => ?_)
        · exact (bY2.below ((Below.refl _ W2).alloc (Nat.le_refl _) _)).all
        clear hK K
        try simp only [Act.put, List.setIfInBounds_toArray, List.set_cons_zero, List.set_cons_succ]
        refine wpAnyH_ready (rs := [0]) (by kernel_rfl) (by simp) (st0 (fun K hK => ?_) AllReadyH.nil)
        go_simp
        refine hK.out _ _ ?_ (fun hHeld => ?_)
        · exact (bY2.below ((Below.refl _ W2).alloc (Nat.le_refl _) _)).all
        clear hK K
        try simp only [Act.put, List.setIfInBounds_toArray, List.set_cons_zero, List.set_cons_succ]
        refine wpAnyH_ready (rs := [10]) (by kernel_rfl) (by simp) (st10 (fun K hK => ?_) AllReadyH.nil)
        refine step_appS rfl (.tmp 21) (.tmp 30) rfl w.heap.size v L rfl (hrow2.below ((Below.refl _ W2).alloc (Nat.le_refl _) _)) W2.heap.size 1 (addSec y) rfl (OneS.new W2 (addSec y) _) hLen ?_ (fun v' w' ho hg => ?_)
        · simp; omega
        obtain ⟨p', n', c', rfl⟩ := ho.slice
        have hg' := hg
        obtain ⟨hR3, hv3, hrow3, hk3, hb3, hvw⟩ := hR2.app hv2 hrow2 hn2 hn0 ⟨by omega, by omega, by omega⟩ ho hg
        have bY3 := (bY2.below ((Below.refl _ W2).alloc (Nat.le_refl _) _)).grown (hrow2.below ((Below.refl _ W2).alloc (Nat.le_refl _) _)) hg'
        have hcw := hvw.cell
        have hfw : w'.frozen? ⟨w2.heap.size, 0, none⟩ = false := by simp [World.frozen?, show w'.heap[w2.heap.size]? = _ from hvw]
        refine hK.out _ _ ?_ (fun hHeld => ?_)
        · exact bY3.all
        clear hK K
        try simp only [Act.put, List.setIfInBounds_toArray, List.set_cons_zero, List.set_cons_succ]
        refine wpAnyH_ready (rs := [11]) (by kernel_rfl) (by simp) (st11 (fun K hK => ?_) AllReadyH.nil)
        go_simp
        refine hK.out _ _ ?_ (fun hHeld => ?_)
        · exact (bY3.set (by omega) _).all
        clear hK K
        try simp only [Act.put, List.setIfInBounds_toArray, List.set_cons_zero, List.set_cons_succ]
        refine wpAnyH_done (by kernel_rfl) ?_ _
        refine HIN.out _ ⟨⟨HK _ ((keeps_of_below hb2).trans hk3), ?_⟩, ⟨_, hv3, hrow3⟩, hR3⟩ { tmps := #[], defers := [] }
        exact hR.kp hR3 ((hd0.trans (hb2.mono hn1)).trans hb3)
  case done =>
    rintro D xs W hD rfl ⟨⟨v, hv, hrow⟩, hR⟩ hK
    rw [map_fix (strs_ok HVf.out HVg.out (by omega) _ _ (by omega))] at hrow
    have hAll := addR_is HVf.out HVg.out hN
    have hlen := strs_len f g 100000 N 0
    have hne := strs_pos f g (show 0 < N by omega)
    have hok : ∀ s, s ∈ (strs f g 100000 N 0).map addSec → s.Ok := fun s hs => by
      obtain ⟨t, ht, rfl⟩ := List.mem_map.1 hs
      exact addSec_ok (strs_ok HVf.out HVg.out (by omega) _ _ (by omega) t ht)
    obtain ⟨L, hL⟩ : ∃ L, L = (strs f g 100000 N 0).map addSec := ⟨_, rfl⟩
    have hLl : L.length = (strs f g 100000 N 0).length := by rw [hL, List.length_map]
    rw [← hL] at hrow hAll hok
    clear hL
    have hrow0 := hrow
    rcases hrow.2 with ⟨rfl, h0⟩ | ⟨g0, cap, cur, rfl, hg0, hgb, _⟩
    · omega
    have KR := Lib.hid (fun m => (callsIn_wide (n := m)).2 (result_any L g0 L.length cap w.heap.size W hrow0 rfl hok (by omega)))
    have hcv := hv.cell
    have hDg : D ≠ g0 := fun e => by rw [e, hgb] at hK; cases hK
    have hKW := (Array.getElem?_eq_some_iff.1 hK).1
    have HB := Lib.hid hR.below
    have HG := Lib.hid hg0
    have HHK := Lib.hid hK
    have HA := Lib.hid hAll
    clear hrow hrow0 hok hR hK hg0 hgb hAll hv hLl hN hlen hne
    gi_wp2_with fail
    refine (KR.out _).mono ?_
    rintro _ W5 ⟨p, b, off, len, cap', rfl, hSl, hBut⟩
    gi_wp2
    have hK5 : W5.heap[D]? = some (.deferred (some [])) := (hBut.block D hKW (fun e => hDg (Option.some.inj e))).trans HHK.out
    refine ⟨by simp, .inl ⟨_, _, rfl, run_takeDeferred hK5, ?_⟩⟩
    have hbb := HB.out.trans (hBut.below HB.out.size HG.out)
    have hP := belowK_b (w := W0) HB4.out.size W5 D _ (.deferred none) hD hK5 rfl rfl
    have hE := HA.out
    rw [hE] at hSl
    refine ⟨.tuple #[.slice p len cap', .int .i64 (resR L).2], ?_, p, b, off, len, cap', by rw [hE], hSl.put hK5, hbb.trans hP⟩
    simp [results, Try.results16, go_sem]
  case stop =>
    rintro D c pre W _ _ h _
    exact h.elim
theorem add_any (f g : List RP) (pf pg : Option Addr) (bf of cf lf bg og cg lg : Nat) (w : World) (hS : SlP w pf bf of lf f) (hS' : SlP w pg bg og lg g) : Calls Try.prog 16 #[.slice pf lf cf, .slice pg lg cg] w fun e w' => OutP (RowKit.Below w.heap.size w) (opR f g (addR f g)).1 (opR f g (addR f g)).2 e w' := by
  by_cases hf : VR f
  · by_cases hg : VR g
    · rw [show opR f g (addR f g) = addR f g from if_pos ⟨hf, hg⟩]
      exact add_yes f g pf pg bf of cf lf bg og cg lg w hS hS' hf hg
    · rw [show opR f g (addR f g) = ([], 1) from if_neg fun h => hg h.2]
      exact add_no2 f g pf pg bf of cf lf bg og cg lg w hS hS' (vR_iff.2 hf) (by rw [← Bool.not_eq_true]; exact fun h => hg (vR_iff.1 h))
  · rw [show opR f g (addR f g) = ([], 1) from if_neg fun h => hf h.1]
    exact add_no1 f pf bf of cf lf _ w hS (by rw [← Bool.not_eq_true]; exact fun h => hf (vR_iff.1 h))
end Go.Proofs.Ytmjdolgcgbiajaa
