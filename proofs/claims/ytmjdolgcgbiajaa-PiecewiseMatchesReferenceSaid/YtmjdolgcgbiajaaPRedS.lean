/-
  Reducing sections in raw numbers, and clear at sections.
-/
import Derived.Test.YtmjdolgcgbiajaaPOwn
import Derived.Lib.SliceRun
namespace Go.Proofs.Ytmjdolgcgbiajaa
open Go.RowKit Pw

def sameS (s t : SP) : Bool := lnS s.b s.r s.d t.b t.r t.d
theorem sameS_cont {s t : SP} (hs : 1 ≤ s.d) (ht : 1 ≤ t.d) : sameS t s = cont s.A t.A := by
  have key : ∀ (b r f d : Int), 1 ≤ d → ∀ x : Int, (SP.A ⟨f, b, r, d⟩).at x = fr b d + fr r d * (x : Rat) := by
    intro b r f d hd x
    have h := ne0 (d := d) (by omega)
    unfold SP.A AP.at
    simp only
    unfold fr
    simp only [Rat.intCast_add, Rat.intCast_mul, Rat.intCast_sub]
    grind
  obtain ⟨f, b, r, d⟩ := s
  obtain ⟨f', b', r', d'⟩ := t
  simp only at hs ht
  have e1 := key b r f d hs
  have e2 := key b' r' f' d' ht
  unfold sameS lnS
  simp only
  rw [Bool.eq_iff_iff, cont_iff, Bool.and_eq_true, decide_eq_true_eq, decide_eq_true_eq]
  constructor
  · rintro ⟨h1, h2⟩
    exact ⟨h1.symm, fun x => by rw [e1, e2, h1, h2]⟩
  · rintro ⟨h1, h2⟩
    have h1' : fr r d = fr r' d' := h1
    refine ⟨h1'.symm, ?_⟩
    have h3 := h2 0
    rw [e1, e2, h1'] at h3
    grind
def rfS (a : SP) : List SP → List SP
  | [] => []
  | b :: t => if sameS b a then rfS b t else b :: rfS b t
def redS : List SP → List SP
  | [] => []
  | a :: t => a :: rfS a t
theorem redS_A {l : List SP} (h : ∀ s, s ∈ l → 1 ≤ s.d) : (redS l).map SP.A = red (l.map SP.A) := by
  have go : ∀ (l : List SP) (a : SP), 1 ≤ a.d → (∀ s, s ∈ l → 1 ≤ s.d) → (rfS a l).map SP.A = rf a.A (l.map SP.A) := by
    intro l
    induction l with
    | nil => intro a _ _; rfl
    | cons b t ih =>
      intro a ha hl
      have hb := hl b (by simp)
      rw [rfS, List.map_cons, rf, sameS_cont ha hb]
      split
      · exact ih b hb fun s hs => hl s (by simp [hs])
      · rw [List.map_cons, ih b hb fun s hs => hl s (by simp [hs])]
  cases l with
  | nil => rfl
  | cons a t => rw [redS, List.map_cons, List.map_cons, red, go t a (h a (by simp)) fun s hs => h s (by simp [hs])]
theorem rfS_sub : ∀ {a : SP} {l : List SP} {q : SP}, q ∈ rfS a l → q ∈ l
  | _, [], _, h => h
  | a, b :: t, q, h => by
    rw [rfS] at h
    split at h
    · exact List.mem_cons_of_mem _ (rfS_sub h)
    · rcases List.mem_cons.1 h with rfl | h
      · exact List.mem_cons_self
      · exact List.mem_cons_of_mem _ (rfS_sub h)
theorem redS_sub {l : List SP} {q : SP} (h : q ∈ redS l) : q ∈ l := by
  cases l with
  | nil => exact h
  | cons a t =>
    rcases List.mem_cons.1 h with rfl | h
    · exact List.mem_cons_self
    · exact List.mem_cons_of_mem _ (rfS_sub h)
/-- One more section. -/
theorem redS_snoc {l : List SP} {x y : SP} (h : l.getLast? = some x) : redS (l ++ [y]) = if sameS y x then redS l else redS l ++ [y] := by
  have go : ∀ (t : List SP) (a x : SP), (a :: t).getLast? = some x → rfS a (t ++ [y]) = if sameS y x then rfS a t else rfS a t ++ [y] := by
    intro t
    induction t with
    | nil =>
      intro a x h
      obtain rfl : a = x := by simpa using h
      rfl
    | cons b t ih =>
      intro a x h
      have h' : (b :: t).getLast? = some x := by rwa [List.getLast?_cons_cons] at h
      rw [List.cons_append, rfS, rfS, ih b x h']
      split <;> split <;> rfl
  cases l with
  | nil => cases h
  | cons a t =>
    rw [List.cons_append, redS, redS, go t a x h]
    split <;> rfl
theorem redS_take {l : List SP} {m : Nat} (h0 : 0 < m) (h : m < l.length) : redS (l.take (m + 1)) = if sameS l[m] (l[m - 1]'(by omega)) then redS (l.take m) else redS (l.take m) ++ [l[m]] := by
  rw [List.take_succ_eq_append_getElem h]
  refine redS_snoc ?_
  rw [List.getLast?_take, if_neg (by omega), List.getElem?_eq_getElem (by omega)]
  rfl
theorem redS_all {l : List SP} : ∀ {m : Nat}, m ≤ l.length → (∀ (j : Nat) (h : j < l.length), 0 < j → j < m → sameS l[j] (l[j - 1]'(by omega)) = false) → redS (l.take m) = l.take m
  | 0, _, _ => rfl
  | 1, h, _ => by
    cases l with
    | nil => rfl
    | cons a t => rfl
  | m + 2, h, hd => by
    rw [redS_take (by omega) (by omega), redS_all (m := m + 1) (by omega) fun j hj h1 h2 => hd j hj h1 (by omega), if_neg (by rw [hd (m + 1) (by omega) (by omega) (by omega)]; simp)]
    exact (List.take_succ_eq_append_getElem (by omega)).symm

/-! ### The row while it is being reduced -/
/-- A slice reads as sections. -/
structure SlS (w : World) (p : Option Addr) (b len : Nat) (l : List SP) : Prop where
  ln : l.length = len
  ptr : 0 < len → p = some ⟨b, 0, none⟩
  cells : ∀ j u, (flS l)[j]? = some u → w.cell? ⟨b, j, none⟩ = some u
  lt : 0 < len → b < w.heap.size
theorem SlS.below {w w1 : World} {p : Option Addr} {b len : Nat} {l : List SP} (h : SlS w p b len l) (hB : RowKit.Below w.heap.size w w1) : SlS w1 p b len l :=
  ⟨h.ln, h.ptr, fun j u hu => by
    have hj := (List.getElem?_eq_some_iff.1 hu).1
    rw [flS_len] at hj
    exact (hB.cell (p := ⟨b, j, none⟩) (h.lt (by have := h.ln; omega))).trans (h.cells j u hu),
    fun x => Nat.lt_of_lt_of_le (h.lt x) hB.size⟩
theorem SlS.at {w : World} {p : Option Addr} {b len : Nat} {l : List SP} (h : SlS w p b len l) {k : Nat} (hk : k < l.length) : w.cell? ⟨b, k * 4, none⟩ = some (.int .i64 l[k].f) ∧ w.cell? ⟨b, k * 4 + 1, none⟩ = some (.int .i64 l[k].b) ∧ w.cell? ⟨b, k * 4 + 2, none⟩ = some (.int .i64 l[k].r) ∧ w.cell? ⟨b, k * 4 + 3, none⟩ = some (.int .i64 l[k].d) := by
  obtain ⟨a0, a1, a2, a3⟩ := flS_at l k hk
  exact ⟨h.cells _ _ a0, h.cells _ _ a1, h.cells _ _ a2, h.cells _ _ a3⟩
theorem SlS.of {w : World} {base g n cap : Nat} {l : List SP} (h : OwnS w base (.slice (some ⟨g, 0, none⟩) n cap) l) (hn : l.length = n) : SlS w (some ⟨g, 0, none⟩) g n l := by
  rcases h.cells with ⟨h1, _⟩ | ⟨g', cap', h1, _, hlt, cl⟩
  · cases h1
  · injection h1 with h2 h3 h4
    injection h2 with h2
    injection h2 with h2
    subst h2
    exact ⟨hn, fun _ => rfl, cl, fun _ => hlt⟩
theorem flS_set : ∀ (L : List SP) (k : Nat) (x : SP), k < L.length → ((((flS L).set (k * 4) (vi x.f)).set (k * 4 + 1) (vi x.b)).set (k * 4 + 2) (vi x.r)).set (k * 4 + 3) (vi x.d) = flS (L.set k x)
  | s :: L, 0, x, _ => rfl
  | s :: L, k + 1, x, h => by
    have := flS_set L k x (by simpa using h)
    rw [show (k + 1) * 4 = k * 4 + 1 + 1 + 1 + 1 by omega]
    simp only [flS, List.set_cons_succ, show ∀ a : Nat, a + 1 + 1 + 1 + 1 + 1 = (a + 1) + 1 + 1 + 1 + 1 from fun _ => rfl, show ∀ a : Nat, a + 1 + 1 + 1 + 1 + 2 = (a + 2) + 1 + 1 + 1 + 1 from fun _ => rfl]
    rw [this]
/-- A store of a section into the row. -/
theorem OwnS.put {w : World} {base g n cap : Nat} {L : List SP} (h : OwnS w base (.slice (some ⟨g, 0, none⟩) n cap) L) (hn : L.length = n) (k : Nat) (x : SP) (hk : k < L.length) :
    OwnS ((((w.setCell ⟨g, k * 4, none⟩ (.int .i64 x.f)).setCell ⟨g, k * 4 + 1, none⟩ (.int .i64 x.b)).setCell ⟨g, k * 4 + 2, none⟩ (.int .i64 x.r)).setCell ⟨g, k * 4 + 3, none⟩ (.int .i64 x.d)) base (.slice (some ⟨g, 0, none⟩) n cap) (L.set k x) := by
  unfold OwnS at h
  rw [hn] at h
  have h1 := (h.stored (k * 4) (vi x.f)).1
  have h2 := (h1.stored (k * 4 + 1) (vi x.b)).1
  have h3 := (h2.stored (k * 4 + 2) (vi x.r)).1
  have h4 := (h3.stored (k * 4 + 3) (vi x.d)).1
  rw [flS_set L k x hk] at h4
  unfold OwnS
  rw [List.length_set, hn]
  exact h4
theorem OwnS.fz {w : World} {base g n cap : Nat} {L : List SP} (h : OwnS w base (.slice (some ⟨g, 0, none⟩) n cap) L) (hn : L.length = n) (j : Nat) : w.frozen? ⟨g, j, none⟩ = false := by
  unfold OwnS at h
  rw [hn] at h
  exact h.frozenAt j
theorem OwnS.le {w : World} {base g n cap : Nat} {L : List SP} (h : OwnS w base (.slice (some ⟨g, 0, none⟩) n cap) L) (hn : L.length = n) : n ≤ cap ∧ base ≤ g ∧ g < w.heap.size ∧ cap ≤ 9223372036854775807 := by
  rcases h.2 with ⟨h', _⟩ | ⟨g', cap', cur, h', hb, hg, hnc, hcm, hcs, htake⟩
  · cases h'
  · injection h' with h2 h3 h4
    injection h2 with h2
    injection h2 with h2
    subst h2 h4
    refine ⟨by omega, hb, ?_, by unfold maxLen at hcm; omega⟩
    rcases Nat.lt_or_ge g w.heap.size with z | z
    · exact z
    · rw [Array.getElem?_eq_none z] at hg; cases hg

theorem below_sets {B g : Nat} {a : World} (hg : B ≤ g) : ∀ (vs : List Value) (o : Nat) (w : World), RowKit.Below B a w → RowKit.Below B a (w.setCells g o vs)
  | [], _, _, h => h
  | v :: vs, o, _, h => below_sets hg vs (o + 1) _ (h.setCell (p := ⟨g, o, none⟩) hg v)
/-- All that lay but one block lies as it lay. -/
def But (g : Nat) (w w' : World) : Prop := w.grownBy w' (some g)
theorem But.refl (g : Nat) (w : World) : But g w w := ⟨rfl, rfl, rfl, Nat.le_refl _, fun _ _ _ => rfl⟩
theorem But.more {g : Nat} {w w1 w2 : World} (h : But g w w1) (k : RowKit.Below w1.heap.size w1 w2) : But g w w2 :=
  ⟨k.os.trans h.os, k.tape.trans h.tape, k.output.trans h.output, Nat.le_trans h.size k.size, fun i hi hn => (k.block i (Nat.lt_of_lt_of_le hi h.size)).trans (h.block i hi hn)⟩
theorem But.of {g : Nat} {w w1 : World} (k : RowKit.Below w.heap.size w w1) : But g w w1 := (But.refl g w).more k
theorem But.setCell {g : Nat} {w w1 : World} (h : But g w w1) (o : Nat) (v : Value) : But g w (w1.setCell ⟨g, o, none⟩ v) := by
  refine ⟨h.os, h.tape, h.output, by have := h.size; simp; omega, fun k hk hn => ?_⟩
  rw [heap_setCell_other w1 ⟨g, o, none⟩ k v (fun e => hn (by rw [e]))]
  exact h.block k hk hn
theorem But.sets {g : Nat} {w : World} : ∀ (vs : List Value) (o : Nat) (w1 : World), But g w w1 → But g w (w1.setCells g o vs)
  | [], _, _, h => h
  | v :: vs, o, _, h => But.sets vs (o + 1) _ (h.setCell o v)
theorem But.below {g B : Nat} {w w1 : World} (h : But g w w1) (hB : B ≤ w.heap.size) (hg : B ≤ g) : RowKit.Below B w w1 :=
  ⟨h.os, h.tape, h.output, h.size, fun k hk => h.block k (by omega) (fun e => by cases e; omega)⟩
/-- clear, at sections. -/
theorem run_clearS (w : World) (ty : TypeId) (g o n c : Nat) (hn : 0 < n) (hc : ∀ j, j < n * 4 → (w.cell? ⟨g, o + j, none⟩).isSome = true) (hf : ∀ j, w.frozen? ⟨g, j, none⟩ = false) :
    (Builtin.clear_ #[62] ty #[.slice (some ⟨g, o, none⟩) n c]).run Try.prog w = .ok (.tuple #[]) (w.setCells g o (List.replicate (n * 4) (.int .i64 0))) := by
  have hv : ∀ w, (zeroValue 71).run Try.prog w = .ok (.agg #[.int .i64 0, .int .i64 0, .int .i64 0, .int .i64 0]) w := fun _ => by kernel_rfl
  have hzc : (Builtin.zeroCells (Value.agg #[.int .i64 0, .int .i64 0, .int .i64 0, .int .i64 0]).cells n).toList = List.replicate (n * 4) (.int .i64 0) := by
    apply List.ext_getElem
    · simp [Builtin.zeroCells, Value.cells]
    · intro i h1 h2
      simp [Builtin.zeroCells, Value.cells]
      have : i % 4 < 4 := Nat.mod_lt _ (by omega)
      rcases (show i % 4 = 0 ∨ i % 4 = 1 ∨ i % 4 = 2 ∨ i % 4 = 3 by omega) with e | e | e | e <;> simp [e]
  have hst := run_storeCells_cells (P := Try.prog) g o (List.replicate (n * 4) (.int .i64 0)) 0 w (by simpa using hc) (by intro j _; exact hf _) (by intro v hv'; rw [List.eq_of_mem_replicate hv']; rfl)
  simp only [Nat.add_zero] at hst
  obtain ⟨m, rfl⟩ : ∃ m, n = m + 1 := ⟨n - 1, by omega⟩
  simp [Builtin.clear_, run_underlying Try.underlying62, hv, hzc, hst]
end Go.Proofs.Ytmjdolgcgbiajaa
