/-
  ZJ: several texts in one.
-/
import Derived.Test.YtjifiijgghpniaaRows
import Derived.Test.YtjifiijgghpniaaZE
import Derived.ProofKit
import Derived.OpenShut
import Derived.SizedLaws
import Derived.Lib.RowBridge
import Derived.Deep.SlicePairs
import Derived.Test.YtjifiijgghpniaaZB
/-
  Arguments of the laws on units that came in: declarations, expressions, rules.
-/
namespace Go.Proofs.Ytjifiijgghpniaa
open Go.ChangeShapes Go.WideShapes Go.ChangeAt Go.WideMaps Go.WideElems Go.RowKit Un

theorem own : ownKnob Try.prog.godebug = none := by kernel_rfl
theorem laidOut : laidOutB Try.prog = true := by kernel_rfl
theorem cells_int : Try.prog.cellsOf 3 = 1 := by kernel_rfl
theorem cells_bool : Try.prog.cellsOf 4 = 1 := by kernel_rfl
theorem cells_str : Try.prog.cellsOf 9 = 1 := by kernel_rfl
theorem cells_rat : Try.prog.cellsOf 27 = 2 := by kernel_rfl
theorem cells_unit : Try.prog.cellsOf 29 = 4 := by kernel_rfl
theorem cells_nodes : Try.prog.cellsOf 30 = 1 := by kernel_rfl
theorem cells_node : Try.prog.cellsOf 32 = 10 := by kernel_rfl
theorem cells_decl : Try.prog.cellsOf 47 = 8 := by kernel_rfl
theorem cells_span : Try.prog.cellsOf 56 = 2 := by kernel_rfl
theorem cells_rule : Try.prog.cellsOf 58 = 28 := by kernel_rfl
theorem cells_decls : Try.prog.cellsOf 22 = 1 := by kernel_rfl
theorem cells_rules : Try.prog.cellsOf 23 = 1 := by kernel_rfl
theorem cells_codex : Try.prog.cellsOf 25 = 2 := by kernel_rfl
theorem in64_of {a : Int} (h : (Lit.int .i64 a).wf = true) : in64 a := by
  have e1 : IntKind.i64.min = -9223372036854775808 := rfl
  have e2 : IntKind.i64.max = 9223372036854775807 := rfl
  simpa [Lit.wf, e1, e2, in64] using h
theorem list2 {cs : List Value} (h : cs.length = 2) : ∃ v0 v1, cs = [v0, v1] := by
  obtain _ | ⟨v0, cs⟩ := cs
  · simp at h
  obtain _ | ⟨v1, cs⟩ := cs
  · simp at h
  obtain _ | ⟨z, cs⟩ := cs
  · exact ⟨v0, v1, rfl⟩
  · simp at h
theorem list8 {cs : List Value} (h : cs.length = 8) : ∃ v0 v1 v2 v3 v4 v5 v6 v7, cs = [v0, v1, v2, v3, v4, v5, v6, v7] := by
  obtain _ | ⟨v0, cs⟩ := cs
  · simp at h
  obtain _ | ⟨v1, cs⟩ := cs
  · simp at h
  obtain _ | ⟨v2, cs⟩ := cs
  · simp at h
  obtain _ | ⟨v3, cs⟩ := cs
  · simp at h
  obtain _ | ⟨v4, cs⟩ := cs
  · simp at h
  obtain _ | ⟨v5, cs⟩ := cs
  · simp at h
  obtain _ | ⟨v6, cs⟩ := cs
  · simp at h
  obtain _ | ⟨v7, cs⟩ := cs
  · simp at h
  obtain _ | ⟨z, cs⟩ := cs
  · exact ⟨v0, v1, v2, v3, v4, v5, v6, v7, rfl⟩
  · simp at h
theorem list10 {cs : List Value} (h : cs.length = 10) : ∃ v0 v1 v2 v3 v4 v5 v6 v7 v8 v9, cs = [v0, v1, v2, v3, v4, v5, v6, v7, v8, v9] := by
  obtain _ | ⟨v0, cs⟩ := cs
  · simp at h
  obtain _ | ⟨v1, cs⟩ := cs
  · simp at h
  obtain _ | ⟨v2, cs⟩ := cs
  · simp at h
  obtain _ | ⟨v3, cs⟩ := cs
  · simp at h
  obtain _ | ⟨v4, cs⟩ := cs
  · simp at h
  obtain _ | ⟨v5, cs⟩ := cs
  · simp at h
  obtain _ | ⟨v6, cs⟩ := cs
  · simp at h
  obtain _ | ⟨v7, cs⟩ := cs
  · simp at h
  obtain _ | ⟨v8, cs⟩ := cs
  · simp at h
  obtain _ | ⟨v9, cs⟩ := cs
  · simp at h
  obtain _ | ⟨z, cs⟩ := cs
  · exact ⟨v0, v1, v2, v3, v4, v5, v6, v7, v8, v9, rfl⟩
  · simp at h
theorem list28 {cs : List Value} (h : cs.length = 28) : ∃ v0 v1 v2 v3 v4 v5 v6 v7 v8 v9 v10 v11 v12 v13 v14 v15 v16 v17 v18 v19 v20 v21 v22 v23 v24 v25 v26 v27, cs = [v0, v1, v2, v3, v4, v5, v6, v7, v8, v9, v10, v11, v12, v13, v14, v15, v16, v17, v18, v19, v20, v21, v22, v23, v24, v25, v26, v27] := by
  obtain _ | ⟨v0, cs⟩ := cs
  · simp at h
  obtain _ | ⟨v1, cs⟩ := cs
  · simp at h
  obtain _ | ⟨v2, cs⟩ := cs
  · simp at h
  obtain _ | ⟨v3, cs⟩ := cs
  · simp at h
  obtain _ | ⟨v4, cs⟩ := cs
  · simp at h
  obtain _ | ⟨v5, cs⟩ := cs
  · simp at h
  obtain _ | ⟨v6, cs⟩ := cs
  · simp at h
  obtain _ | ⟨v7, cs⟩ := cs
  · simp at h
  obtain _ | ⟨v8, cs⟩ := cs
  · simp at h
  obtain _ | ⟨v9, cs⟩ := cs
  · simp at h
  obtain _ | ⟨v10, cs⟩ := cs
  · simp at h
  obtain _ | ⟨v11, cs⟩ := cs
  · simp at h
  obtain _ | ⟨v12, cs⟩ := cs
  · simp at h
  obtain _ | ⟨v13, cs⟩ := cs
  · simp at h
  obtain _ | ⟨v14, cs⟩ := cs
  · simp at h
  obtain _ | ⟨v15, cs⟩ := cs
  · simp at h
  obtain _ | ⟨v16, cs⟩ := cs
  · simp at h
  obtain _ | ⟨v17, cs⟩ := cs
  · simp at h
  obtain _ | ⟨v18, cs⟩ := cs
  · simp at h
  obtain _ | ⟨v19, cs⟩ := cs
  · simp at h
  obtain _ | ⟨v20, cs⟩ := cs
  · simp at h
  obtain _ | ⟨v21, cs⟩ := cs
  · simp at h
  obtain _ | ⟨v22, cs⟩ := cs
  · simp at h
  obtain _ | ⟨v23, cs⟩ := cs
  · simp at h
  obtain _ | ⟨v24, cs⟩ := cs
  · simp at h
  obtain _ | ⟨v25, cs⟩ := cs
  · simp at h
  obtain _ | ⟨v26, cs⟩ := cs
  · simp at h
  obtain _ | ⟨v27, cs⟩ := cs
  · simp at h
  obtain _ | ⟨z, cs⟩ := cs
  · exact ⟨v0, v1, v2, v3, v4, v5, v6, v7, v8, v9, v10, v11, v12, v13, v14, v15, v16, v17, v18, v19, v20, v21, v22, v23, v24, v25, v26, v27, rfl⟩
  · simp at h
section
variable {H : Type} {enc : TypeId × Value → H} {W : World} {base : Nat} {spare : Nat → Bool} {held : Bool}
theorem fld {fs : Array Field} {xs : List (DataW H × List MemPlace)} {n : Nat} {cs : List Value} (hl : xs.length = fs.size)
    (h : ∀ (i : Nat) (f : Field), fs[i]? = some f → DataW.trod enc Try.prog W base spare held n f.type ((cs.drop f.offset).take (Try.prog.cellsOf f.type)) = xs[i]?)
    (i : Nat) {T o c : Nat} (hi : (fs[i]?).map (fun f => (f.type, f.offset)) = some (T, o)) (hc : Try.prog.cellsOf T = c) : ∃ y, DataW.trod enc Try.prog W base spare held n T ((cs.drop o).take c) = some y := by
  obtain ⟨f, hf, he⟩ := Option.map_eq_some_iff.1 hi
  injection he with h1 h2
  subst h1 h2 hc
  have hlt : i < xs.length := by rw [hl]; exact (Array.getElem?_eq_some_iff.1 hf).1
  exact ⟨xs[i], (h i f hf).trans (List.getElem?_eq_getElem hlt)⟩
theorem cell_int {n : Nat} {v : Value} {x : DataW H × List MemPlace} (h : DataW.trod enc Try.prog W base spare held n 3 [v] = some x) : ∃ z, v = .int .i64 z ∧ in64 z := by
  obtain ⟨z, h1, _, h3⟩ := DataW.trod_int Try.underlying3 h
  injection h1 with h1 _
  exact ⟨z, h1, in64_of h3⟩
theorem cell_bool {n : Nat} {v : Value} {x : DataW H × List MemPlace} (h : DataW.trod enc Try.prog W base spare held n 4 [v] = some x) : ∃ z, v = .bool z := by
  obtain ⟨z, h1, _⟩ := DataW.trod_bool Try.underlying4 h
  injection h1 with h1 _
  exact ⟨z, h1⟩
theorem cell_str {n : Nat} {v : Value} {x : DataW H × List MemPlace} (h : DataW.trod enc Try.prog W base spare held n 9 [v] = some x) : ∃ s : List UInt8, v = .string (bs s) := by
  obtain ⟨s, h1, _⟩ := DataW.trod_string Try.underlying9 h
  injection h1 with h1 _
  exact ⟨s.data.toList, by rw [h1, ← bs_of]⟩
theorem cell_unit {n : Nat} {v0 v1 v2 v3 : Value} {x : DataW H × List MemPlace} (h : DataW.trod enc Try.prog W base spare held n 29 [v0, v1, v2, v3] = some x) : ∃ u : U, v0 = .bool u.f ∧ v1 = .int .i64 u.m ∧ v2 = .int .i64 u.a ∧ v3 = .int .i64 u.d := by
  obtain ⟨xs, k, _, _, _, hxl, hf⟩ := DataW.trod_struct Try.underlying29 h
  obtain ⟨y0, h0⟩ := fld hxl hf 0 rfl cells_bool
  obtain ⟨y1, h1⟩ := fld hxl hf 1 rfl cells_int
  obtain ⟨y2, h2⟩ := fld hxl hf 2 rfl cells_int
  obtain ⟨y3, h3⟩ := fld hxl hf 3 rfl cells_int
  obtain ⟨a, rfl⟩ := cell_bool h0
  obtain ⟨b, rfl, _⟩ := cell_int h1
  obtain ⟨c, rfl, _⟩ := cell_int h2
  obtain ⟨d, rfl, _⟩ := cell_int h3
  exact ⟨⟨a, b, c, d⟩, rfl, rfl, rfl, rfl⟩
theorem cell_rat {n : Nat} {v0 v1 : Value} {x : DataW H × List MemPlace} (h : DataW.trod enc Try.prog W base spare held n 27 [v0, v1] = some x) : ∃ a b, v0 = .int .i64 a ∧ v1 = .int .i64 b ∧ in64 a ∧ in64 b := by
  obtain ⟨xs, k, _, _, _, hxl, hf⟩ := DataW.trod_struct Try.underlying27 h
  obtain ⟨y0, h0⟩ := fld hxl hf 0 rfl cells_int
  obtain ⟨y1, h1⟩ := fld hxl hf 1 rfl cells_int
  obtain ⟨a, rfl, ha⟩ := cell_int h0
  obtain ⟨b, rfl, hb⟩ := cell_int h1
  exact ⟨a, b, rfl, rfl, ha, hb⟩
theorem cell_span {n : Nat} {v0 v1 : Value} {x : DataW H × List MemPlace} (h : DataW.trod enc Try.prog W base spare held n 56 [v0, v1] = some x) : ∃ a b, v0 = .int .i64 a ∧ v1 = .int .i64 b := by
  obtain ⟨xs, k, _, _, _, hxl, hf⟩ := DataW.trod_struct Try.underlying56 h
  obtain ⟨y0, h0⟩ := fld hxl hf 0 rfl cells_int
  obtain ⟨y1, h1⟩ := fld hxl hf 1 rfl cells_int
  obtain ⟨a, rfl, _⟩ := cell_int h0
  obtain ⟨b, rfl, _⟩ := cell_int h1
  exact ⟨a, b, rfl, rfl⟩
theorem cells_decl_of {n : Nat} {cs : List Value} {x : DataW H × List MemPlace} (h : DataW.trod enc Try.prog W base spare held n 47 cs = some x) : ∃ d : Dc, cs = dC d := by
  obtain ⟨xs, k, _, _, hl, hxl, hf⟩ := DataW.trod_struct Try.underlying47 h
  rw [cells_decl] at hl
  obtain ⟨y0, h0⟩ := fld hxl hf 0 rfl cells_str
  obtain ⟨y1, h1⟩ := fld hxl hf 1 rfl cells_unit
  obtain ⟨y2, h2⟩ := fld hxl hf 2 rfl cells_int
  obtain ⟨y3, h3⟩ := fld hxl hf 3 rfl cells_int
  obtain ⟨y4, h4⟩ := fld hxl hf 4 rfl cells_int
  obtain ⟨v0, v1, v2, v3, v4, v5, v6, v7, rfl⟩ := list8 hl
  obtain ⟨s, rfl⟩ := cell_str h0
  obtain ⟨u, rfl, rfl, rfl, rfl⟩ := cell_unit h1
  obtain ⟨a, rfl, _⟩ := cell_int h2
  obtain ⟨b, rfl, _⟩ := cell_int h3
  obtain ⟨c, rfl, _⟩ := cell_int h4
  exact ⟨⟨s, u, a, b, c⟩, rfl⟩
end
theorem KdM.mk {w : World} {A : Nat → Prop} {b : Nat} : ∀ (ks : List Nd) (off : Nat), (∀ (i : Nat) (h : i < ks.length), ∃ x : Kd, (∀ (j : Nat) (v : Value), (nC ks[i] x)[j]? = some v → w.cell? ⟨b, off + i * 10 + j, none⟩ = some v) ∧ NdM w A ks[i] x) → KdM w A b off ks
  | [], _, _ => by simp only [KdM]
  | k :: ks, off, h => by
    simp only [KdM]
    refine ⟨?_, KdM.mk ks (off + 10) fun i hi => ?_⟩
    · obtain ⟨x, h1, h2⟩ := h 0 (Nat.succ_pos _)
      refine ⟨x, fun j v hv => ?_, h2⟩
      have := h1 j v hv
      rwa [show off + 0 * 10 + j = off + j by omega] at this
    · obtain ⟨x, h1, h2⟩ := h (i + 1) (Nat.succ_lt_succ hi)
      refine ⟨x, fun j v hv => ?_, h2⟩
      have := h1 j v hv
      rwa [show off + (i + 1) * 10 + j = off + 10 + i * 10 + j by omega] at this
theorem nins_mk : ∀ (ks : List Nd), (∀ k ∈ ks, nin k) → nins ks
  | [], _ => by simp only [nins]
  | k :: ks, h => by
    simp only [nins]
    exact ⟨h k List.mem_cons_self, nins_mk ks fun k hk => h k (List.mem_cons_of_mem _ hk)⟩
theorem ad0 (b off : Nat) : ∀ i, (⟨b, off, none⟩ : Addr).add i = ⟨b, off + i, none⟩ := fun i => by unfold Addr.add; split <;> simp_all
/-- An expression that came in, with all its operands. -/
theorem trod_node {H : Type} {enc : TypeId × Value → H} {W : World} (N : Nat) : ∀ (fuel : Nat), fuel ≤ N → ∀ (cs : List Value) (x : DataW H × List MemPlace), DataW.trod enc Try.prog W 0 (fun _ => true) true fuel 32 cs = some x → ∃ (t : Nd) (y : Kd), cs = nC t y ∧ NdM W (fun _ => True) t y ∧ nin t := by
  induction N with
  | zero =>
    intro fuel hf cs x h
    obtain ⟨_, k, hk, _⟩ := DataW.trod_struct Try.underlying32 h
    omega
  | succ N ih =>
    intro fuel hfu cs x h
    obtain ⟨xs, k, hk, _, hl, hxl, hf⟩ := DataW.trod_struct Try.underlying32 h
    rw [cells_node] at hl
    obtain ⟨y0, h0⟩ := fld hxl hf 0 rfl cells_int
    obtain ⟨y1, h1⟩ := fld hxl hf 1 rfl cells_int
    obtain ⟨y2, h2⟩ := fld hxl hf 2 rfl cells_str
    obtain ⟨y3, h3⟩ := fld hxl hf 3 rfl cells_rat
    obtain ⟨y4, h4⟩ := fld hxl hf 4 rfl cells_unit
    obtain ⟨y5, h5⟩ := fld hxl hf 5 rfl cells_nodes
    obtain ⟨v0, v1, v2, v3, v4, v5, v6, v7, v8, v9, rfl⟩ := list10 hl
    obtain ⟨op, rfl, _⟩ := cell_int h0
    obtain ⟨pl, rfl, _⟩ := cell_int h1
    obtain ⟨s, rfl⟩ := cell_str h2
    obtain ⟨n, d, rfl, rfl, hn, hd⟩ := cell_rat h3
    obtain ⟨u, rfl, rfl, rfl, rfl⟩ := cell_unit h4
    clear h0 h1 h2 h3 h4 hf hxl h
    rcases DataW.trod_slice Try.underlying30 h5 with ⟨hcs, _⟩ | ⟨a, len, cap, elems, rest, m, hm, hcs, _, _, hle, hmx, hel, he, _, _⟩
    · injection hcs with hcs _
      subst hcs
      refine ⟨.mk op pl s n d u [], ⟨none, 0⟩, rfl, ?_, ?_⟩
      · simp only [NdM]
        exact ⟨0, 0, fun h => absurd h (by simp), by simp, by simp only [KdM]⟩
      · simp only [nin, nins]
        exact ⟨hn, hd, trivial⟩
    · injection hcs with hcs _
      subst hcs
      have num : ∀ i, i < len → ∃ (t : Nd) (y : Kd), (∀ (j : Nat) (v : Value), (nC t y)[j]? = some v → W.cell? (a.add (i * 10 + j)) = some v) ∧ NdM W (fun _ => True) t y ∧ nin t := by
        intro i hi
        have hi' := he i hi
        rw [List.getElem?_eq_getElem (by omega), cells_node] at hi'
        obtain ⟨cs', c1, c2⟩ := Option.bind_eq_some_iff.1 hi'
        obtain ⟨_, hlen, hcell⟩ := World.cells?_some c1
        obtain ⟨t, y, rfl, h2, h3⟩ := ih m (by omega) cs' _ c2
        refine ⟨t, y, fun j v hv => ?_, h2, h3⟩
        have hj := (List.getElem?_eq_some_iff.1 hv).1
        have := hcell j (by omega)
        rw [Go.Deep.add_add] at this
        rw [this, hv]
      by_cases h00 : len = 0
      · subst h00
        refine ⟨.mk op pl s n d u [], ⟨some a, cap⟩, rfl, ?_, ?_⟩
        · simp only [NdM]
          exact ⟨0, 0, fun h => absurd h (by simp), by simp, by simp only [KdM]⟩
        · simp only [nin, nins]
          exact ⟨hn, hd, trivial⟩
      · obtain ⟨b, off, spot⟩ := a
        have hspot : spot = none := by
          obtain ⟨t, y, c0, _⟩ := num 0 (by omega)
          have hlt := nC_len t y
          have := World.cell?_spot (c0 0 _ (List.getElem?_eq_getElem (by omega)))
          simpa [Addr.add] using this
        subst hspot
        simp only [ad0] at num
        have each : ∀ i, ∃ (q : Nd × Kd), i < len → (∀ (j : Nat) (v : Value), (nC q.1 q.2)[j]? = some v → W.cell? ⟨b, off + (i * 10 + j), none⟩ = some v) ∧ NdM W (fun _ => True) q.1 q.2 ∧ nin q.1 := fun i => by
          by_cases hi : i < len
          · obtain ⟨t, y, h⟩ := num i hi
            exact ⟨(t, y), fun _ => h⟩
          · exact ⟨(.mk 0 0 [] 0 0 u [], ⟨none, 0⟩), fun h => absurd h hi⟩
        obtain ⟨X, hX⟩ := (⟨fun i => (each i).choose, fun i => (each i).choose_spec⟩ : ∃ X : Nat → Nd × Kd, ∀ i, i < len → (∀ (j : Nat) (v : Value), (nC (X i).1 (X i).2)[j]? = some v → W.cell? ⟨b, off + (i * 10 + j), none⟩ = some v) ∧ NdM W (fun _ => True) (X i).1 (X i).2 ∧ nin (X i).1)
        have hll : ((List.range len).map fun i => (X i).1).length = len := by simp
        have hb : b < W.heap.size := by
          have hlt := nC_len (X 0).1 (X 0).2
          exact World.block_lt_of_cell? _ _ ((hX 0 (by omega)).1 0 _ (List.getElem?_eq_getElem (by omega)))
        refine ⟨.mk op pl s n d u ((List.range len).map fun i => (X i).1), ⟨some ⟨b, off, none⟩, cap⟩, ?_, ?_, ?_⟩
        · simp only [nC, hll]
        · simp only [NdM, hll]
          refine ⟨b, off, fun _ => ⟨rfl, trivial, hb⟩, by unfold maxLen at hmx; omega, KdM.mk _ _ fun i hi => ?_⟩
          rw [hll] at hi
          rw [List.getElem_map, List.getElem_range]
          refine ⟨(X i).2, fun j v hv => ?_, (hX i hi).2.1⟩
          rw [Nat.add_assoc]
          exact (hX i hi).1 j v hv
        · simp only [nin]
          refine ⟨hn, hd, nins_mk _ fun k hk => ?_⟩
          obtain ⟨i, hi, rfl⟩ := List.mem_map.1 hk
          exact (hX i (List.mem_range.1 hi)).2.2
theorem open_node {H : Type} {enc : TypeId × Value → H} {W : World} {cs : Array Value} {d : DataW H} {ps : List MemPlace} (h : DataW.Trod enc Try.prog W 0 (fun _ => true) true 32 (.agg cs) d ps) :
    ∃ (t : Nd) (y : Kd), (.agg cs : Value) = nV t y ∧ NdM W (fun _ => True) t y ∧ nin t := by
  obtain ⟨fuel, hf⟩ := h
  obtain ⟨t, y, h1, h2, h3⟩ := trod_node fuel fuel (Nat.le_refl _) _ _ hf
  simp only [Value.cells] at h1
  refine ⟨t, y, ?_, h2, h3⟩
  unfold nV
  rw [← h1]
/-- A slice of rows that came in. -/
theorem open_rows {H : Type} {enc : TypeId × Value → H} {W : World} {T E n : Nat} {ρ : Type} (cells : ρ → List Value) (G : ρ → Prop) (r0 : ρ) (hT : Try.prog.underlying T = some (.slice E)) (hE : Try.prog.cellsOf E = n) (hn : 0 < n) (hc : ∀ r, (cells r).length = n)
    (hrow : ∀ (fuel : Nat) (cs : List Value) (x : DataW H × List MemPlace), DataW.trod enc Try.prog W 0 (fun _ => true) true fuel E cs = some x → ∃ r, cs = cells r ∧ G r)
    {fuel : Nat} {v : Value} {x : DataW H × List MemPlace} (h : DataW.trod enc Try.prog W 0 (fun _ => true) true fuel T [v] = some x) :
    ∃ (l : List ρ) (a0 : Option Addr) (b off cap : Nat), v = .slice a0 l.length cap ∧ SlR W a0 b off l.length n (l.map cells) ∧ ∀ r ∈ l, G r := by
  rcases DataW.trod_slice hT h with ⟨hcs, _⟩ | ⟨a, len, cap, elems, rest, m, hm, hcs, _, _, hle, hmx, hel, he, _, _⟩
  · injection hcs with hcs _
    exact ⟨[], none, 0, 0, 0, hcs, SlR.nil _ _ _ _ _, fun r hr => absurd hr List.not_mem_nil⟩
  · injection hcs with hcs _
    have num : ∀ i, i < len → ∃ r : ρ, (∀ (j : Nat) (v : Value), (cells r)[j]? = some v → W.cell? (a.add (i * n + j)) = some v) ∧ G r := by
      intro i hi
      have hi' := he i hi
      rw [List.getElem?_eq_getElem (by omega), hE] at hi'
      obtain ⟨cs', c1, c2⟩ := Option.bind_eq_some_iff.1 hi'
      obtain ⟨_, hlen, hcell⟩ := World.cells?_some c1
      obtain ⟨r, rfl, h2⟩ := hrow m cs' _ c2
      refine ⟨r, fun j v hv => ?_, h2⟩
      have hj := (List.getElem?_eq_some_iff.1 hv).1
      have := hcell j (by have := hc r; omega)
      rw [Go.Deep.add_add] at this
      rw [this, hv]
    by_cases h00 : len = 0
    · subst h00
      exact ⟨[], some a, 0, 0, cap, hcs, SlR.nil _ _ _ _ _, fun r hr => absurd hr List.not_mem_nil⟩
    · obtain ⟨b, off, spot⟩ := a
      have hspot : spot = none := by
        obtain ⟨r, c0, _⟩ := num 0 (by omega)
        have := World.cell?_spot (c0 0 _ (List.getElem?_eq_getElem (by have := hc r; omega)))
        simpa [Addr.add] using this
      subst hspot
      simp only [ad0] at num
      have each : ∀ i, ∃ q : ρ, i < len → (∀ (j : Nat) (v : Value), (cells q)[j]? = some v → W.cell? ⟨b, off + (i * n + j), none⟩ = some v) ∧ G q := fun i => by
        by_cases hi : i < len
        · obtain ⟨r, h⟩ := num i hi
          exact ⟨r, fun _ => h⟩
        · exact ⟨r0, fun h => absurd h hi⟩
      obtain ⟨X, hX⟩ := (⟨fun i => (each i).choose, fun i => (each i).choose_spec⟩ : ∃ X : Nat → ρ, ∀ i, i < len → (∀ (j : Nat) (v : Value), (cells (X i))[j]? = some v → W.cell? ⟨b, off + (i * n + j), none⟩ = some v) ∧ G (X i))
      have hll : ((List.range len).map X).length = len := by simp
      refine ⟨(List.range len).map X, some ⟨b, off, none⟩, b, off, cap, by rw [hll]; exact hcs, ⟨by simp, fun _ => rfl, fun i r hr => ?_, fun _ => ?_, by rw [hll]; unfold maxLen at hmx; omega⟩, fun r hr => ?_⟩
      · rw [List.getElem?_map] at hr
        obtain ⟨q, hq, rfl⟩ := Option.map_eq_some_iff.1 hr
        rw [List.getElem?_map] at hq
        obtain ⟨k, hk, rfl⟩ := Option.map_eq_some_iff.1 hq
        obtain ⟨hk1, hk2⟩ := List.getElem?_eq_some_iff.1 hk
        rw [List.length_range] at hk1
        rw [List.getElem_range] at hk2
        subst hk2
        refine ⟨hc _, fun j v hv => ?_⟩
        rw [Nat.add_assoc]
        exact (hX i hk1).1 j v hv
      · exact World.block_lt_of_cell? _ _ ((hX 0 (by omega)).1 0 _ (List.getElem?_eq_getElem (by have := hc (X 0); omega)))
      · obtain ⟨i, hi, rfl⟩ := List.mem_map.1 hr
        exact (hX i (List.mem_range.1 hi)).2
/-- Declarations that came in. -/
theorem trod_decls {H : Type} {enc : TypeId × Value → H} {W : World} {fuel : Nat} {v : Value} {x : DataW H × List MemPlace} (h : DataW.trod enc Try.prog W 0 (fun _ => true) true fuel 22 [v] = some x) :
    ∃ (L : List Dc) (a0 : Option Addr) (b off cap : Nat), v = .slice a0 L.length cap ∧ SlR W a0 b off L.length 8 (L.map dC) := by
  obtain ⟨L, a0, b, off, cap, h1, h2, _⟩ := open_rows dC (fun _ => True) ⟨[], uNum, 0, 0, 0⟩ Try.underlying22 cells_decl (by omega) (fun _ => rfl) (fun _ _ _ h => by obtain ⟨d, hd⟩ := cells_decl_of h; exact ⟨d, hd, trivial⟩) h
  exact ⟨L, a0, b, off, cap, h1, h2⟩
theorem open_decls {H : Type} {enc : TypeId × Value → H} {W : World} {a : Option Addr} {n c : Nat} {d : DataW H} {ps : List MemPlace} (h : DataW.Trod enc Try.prog W 0 (fun _ => true) true 22 (.slice a n c) d ps) :
    ∃ (L : List Dc) (b off : Nat), n = L.length ∧ SlR W a b off L.length 8 (L.map dC) := by
  obtain ⟨fuel, hf⟩ := h
  obtain ⟨L, a0, b, off, cap, h1, h2⟩ := trod_decls hf
  injection h1 with h1 h3 h4
  subst h1 h3 h4
  exact ⟨L, b, off, rfl, h2⟩
/-- Rules that came in, with their expressions. -/
theorem cells_rule_of {H : Type} {enc : TypeId × Value → H} {W : World} {n : Nat} {cs : List Value} {x : DataW H × List MemPlace} (h : DataW.trod enc Try.prog W 0 (fun _ => true) true n 58 cs = some x) : ∃ r : Ru × Kd × Kd, cs = rC r.1 r.2.1 r.2.2 ∧ RuM W (fun _ => True) r.1 r.2.1 r.2.2 ∧ RuN r.1 := by
  obtain ⟨xs, k, _, _, hl, hxl, hf⟩ := DataW.trod_struct Try.underlying58 h
  rw [cells_rule] at hl
  obtain ⟨y0, h0⟩ := fld hxl hf 0 rfl cells_str
  obtain ⟨y1, h1⟩ := fld hxl hf 1 rfl cells_int
  obtain ⟨y2, h2⟩ := fld hxl hf 2 rfl cells_int
  obtain ⟨y3, h3⟩ := fld hxl hf 3 rfl cells_str
  obtain ⟨y4, h4⟩ := fld hxl hf 4 rfl cells_span
  obtain ⟨y5, h5⟩ := fld hxl hf 5 rfl cells_int
  obtain ⟨y6, h6⟩ := fld hxl hf 6 rfl cells_node
  obtain ⟨y7, h7⟩ := fld hxl hf 7 rfl cells_node
  obtain ⟨y8, h8⟩ := fld hxl hf 8 rfl cells_int
  obtain ⟨v0, v1, v2, v3, v4, v5, v6, v7, v8, v9, v10, v11, v12, v13, v14, v15, v16, v17, v18, v19, v20, v21, v22, v23, v24, v25, v26, v27, rfl⟩ := list28 hl
  obtain ⟨s, rfl⟩ := cell_str h0
  obtain ⟨a1, rfl, _⟩ := cell_int h1
  obtain ⟨a2, rfl, _⟩ := cell_int h2
  obtain ⟨s3, rfl⟩ := cell_str h3
  obtain ⟨a4, a5, rfl, rfl⟩ := cell_span h4
  obtain ⟨a6, rfl, _⟩ := cell_int h5
  obtain ⟨t, y, e6, n6, i6⟩ := trod_node k k (Nat.le_refl _) _ _ h6
  obtain ⟨u, z, e7, n7, i7⟩ := trod_node k k (Nat.le_refl _) _ _ h7
  obtain ⟨a8, rfl, _⟩ := cell_int h8
  refine ⟨(⟨s, a1, a2, s3, a4, a5, a6, t, u, a8⟩, y, z), ?_, ⟨n6, n7⟩, ⟨i6, i7⟩⟩
  have e6 : [v7, v8, v9, v10, v11, v12, v13, v14, v15, v16] = nC t y := e6
  have e7 : [v17, v18, v19, v20, v21, v22, v23, v24, v25, v26] = nC u z := e7
  simp only [rC]
  rw [← e6, ← e7]
  rfl
theorem rC_len (r : Ru) (x y : Kd) : (rC r x y).length = 28 := (RuC.of r x y).len
theorem trod_rules {H : Type} {enc : TypeId × Value → H} {W : World} {fuel : Nat} {v : Value} {x : DataW H × List MemPlace} (h : DataW.trod enc Try.prog W 0 (fun _ => true) true fuel 23 [v] = some x) :
    ∃ (rs : List Ru) (rows : List (List Value)) (a0 : Option Addr) (b off cap : Nat), v = .slice a0 rs.length cap ∧ RsM W (fun _ => True) a0 b off rs rows := by
  obtain ⟨l, a0, b, off, cap, h1, h2, h3⟩ := open_rows (fun r : Ru × Kd × Kd => rC r.1 r.2.1 r.2.2) (fun r => RuM W (fun _ => True) r.1 r.2.1 r.2.2 ∧ RuN r.1) (⟨[], 0, 0, [], 0, 0, 0, .mk 0 0 [] 0 0 uNum [], .mk 0 0 [] 0 0 uNum [], 0⟩, ⟨none, 0⟩, ⟨none, 0⟩) Try.underlying23 cells_rule (by omega) (fun r => rC_len _ _ _) (fun _ _ _ h => cells_rule_of h) h
  refine ⟨l.map (·.1), l.map fun r => rC r.1 r.2.1 r.2.2, a0, b, off, cap, by rw [List.length_map]; exact h1, ⟨by rw [List.length_map]; exact h2, fun i hi h' => ?_, fun r hr => ?_⟩⟩
  · simp only [List.getElem_map]
    have hm := h3 (l[i]'(by simpa using hi)) (List.getElem_mem _)
    exact ⟨_, _, RuC.of _ _ _, hm.1⟩
  · obtain ⟨q, hq, rfl⟩ := List.mem_map.1 hr
    exact (h3 q hq).2
theorem open_codex {H : Type} {enc : TypeId × Value → H} {W : World} {cs : Array Value} {d : DataW H} {ps : List MemPlace} (h : DataW.Trod enc Try.prog W 0 (fun _ => true) true 25 (.agg cs) d ps) :
    ∃ (L : List Dc) (rs : List Ru) (rows : List (List Value)) (pd pr : Option Addr) (bd od cd br orr cr : Nat), (.agg cs : Value) = .agg #[.slice pd L.length cd, .slice pr rs.length cr] ∧ SlR W pd bd od L.length 8 (L.map dC) ∧ RsM W (fun _ => True) pr br orr rs rows := by
  obtain ⟨fuel, h⟩ := h
  obtain ⟨xs, k, _, _, hl, hxl, hf⟩ := DataW.trod_struct Try.underlying25 h
  rw [cells_codex] at hl
  obtain ⟨y0, h0⟩ := fld hxl hf 0 rfl cells_decls
  obtain ⟨y1, h1⟩ := fld hxl hf 1 rfl cells_rules
  simp only [Value.cells] at hl h0 h1
  obtain ⟨cs⟩ := cs
  obtain ⟨v0, v1, rfl⟩ := list2 hl
  obtain ⟨L, pd, bd, od, cd, rfl, hD⟩ := trod_decls h0
  obtain ⟨rs, rows, pr, br, orr, cr, rfl, hR⟩ := trod_rules h1
  exact ⟨L, rs, rows, pd, pr, bd, od, cd, br, orr, cr, rfl, hD, hR⟩
end Go.Proofs.Ytjifiijgghpniaa
/-
  Contracts of the statements' own size and FewNode.
-/
namespace Go.Proofs.Ytjifiijgghpniaa
open Go.RowKit Un

mutual
theorem left_bd : ∀ (t : Nd) (g m : Int), 0 ≤ m → -1 ≤ left g m t ∧ left g m t ≤ m
  | .mk op pl nm n d u ks, g, m, h => by
    simp only [left]
    split
    · omega
    · have := lefts_bd ks (g - 1) (m - 1) (by omega)
      omega
theorem lefts_bd : ∀ (ks : List Nd) (g m : Int), -1 ≤ m → -1 ≤ lefts g m ks ∧ lefts g m ks ≤ m
  | [], g, m, h => by simp only [lefts]; omega
  | k :: ks, g, m, h => by
    simp only [lefts]
    split
    · rename_i hm
      have h1 := left_bd k g m hm
      have h2 := lefts_bd ks g (left g m k) h1.1
      omega
    · omega
end
theorem lefts_drop (g m : Int) (ks : List Nd) (i : Nat) (h : i < ks.length) (hm : 0 ≤ m) : lefts g m (ks.drop i) = lefts g (left g m ks[i]) (ks.drop (i + 1)) := by
  rw [List.drop_eq_getElem_cons h]
  simp only [lefts]
  rw [if_pos hm]
theorem lefts_neg (g m : Int) : ∀ (ks : List Nd), m < 0 → lefts g m ks = m
  | [], _ => by simp only [lefts]
  | k :: ks, h => by simp only [lefts]; rw [if_neg (by omega)]
set_option maxRecDepth 100000 in
set_option maxHeartbeats 8000000 in
theorem lsize_any (N : Nat) : ∀ (t : Nd), size t ≤ N → ∀ (g m : Int), 0 ≤ g → g ≤ 1000 → 0 ≤ m → m ≤ 1000 → ∀ (A : Nat → Prop) (x : Kd) (w : World), NdM w A t x → Calls Try.prog 34 #[nV t x, .int .i64 g, .int .i64 m] w fun e w' => e = .returned (.int .i64 (left g m t)) ∧ RowKit.Below w.heap.size w w' := by
  induction N with
  | zero => intro t h; cases t; simp [size] at h
  | succ N ih =>
    intro t hN g m hg1 hg2 hm1 hm2 A x w hx
    obtain ⟨op, pl, nm, n0, d0, ⟨uf, um, ua, ud⟩, ks⟩ := t
    simp only [size] at hN
    simp only [NdM] at hx
    obtain ⟨bq, off, hp, hkl, hK⟩ := hx
    obtain ⟨xq, xc⟩ := x
    simp only at hp
    have KM := Lib.hid (fun (i : Nat) (hi : i < ks.length) (m : Int) (h1 : 1 ≤ g) (h2 : 0 ≤ m) (h3 : m ≤ 1000) => ih ks[i] (by have := size_get ks i hi; omega) (g - 1) m (by omega) (by omega) h2 h3 A)
    clear ih
    obtain ⟨R, hR⟩ : ∃ R, R = left g m (.mk op pl nm n0 d0 ⟨uf, um, ua, ud⟩ ks) := ⟨_, rfl⟩
    rw [← hR]
    have HR : Hid (R = if g < 1 ∨ 100 < nm.length then -1 else lefts (g - 1) (m - 1) ks) := by rw [hR]; exact left.eq_1 ..
    clear hR
    show Calls _ _ #[.agg #[.int .i64 op, .int .i64 pl, .string (bs nm), .int .i64 n0, .int .i64 d0, .bool uf, .int .i64 um, .int .i64 ua, .int .i64 ud, .slice xq ks.length xc], .int .i64 g, .int .i64 m] _ _
    have hsl : (bs nm).size = nm.length := bs_size nm
    have e0 : IntKind.i64.wrap (m - 1) = m - 1 := by rw [IntWalk.i64_in _ (by omega)]
    have e1 : IntKind.i64.wrap (g - 1) = g - 1 := by rw [IntWalk.i64_in _ (by omega)]
    generalize bs nm = s at *
    obtain ⟨W1, hW1⟩ : ∃ W1, W1 = w.alloc (.cells #[.int .i64 op, .int .i64 pl, .string s, .int .i64 n0, .int .i64 d0, .bool uf, .int .i64 um, .int .i64 ua, .int .i64 ud, .slice xq ks.length xc] 32) := ⟨_, rfl⟩
    have HB : Hid (RowKit.Below w.heap.size w W1 ∧ W1.cell? ⟨w.heap.size, 9, none⟩ = some (.slice xq ks.length xc)) := by rw [hW1]; exact ⟨(Below.refl _ _).alloc (Nat.le_refl _) _, by simp⟩
    have HK := Lib.hid hK
    have HP := Lib.hid hp
    clear hK hp
    by_cases hg : g < 1
    · have HRF : Hid (R = -1) := by show _ = _; rw [HR.out, if_pos (.inl hg)]
      go_enter Try.func34, Try.ntmps34
      go_wp2_with fail
      go_ret
      rw [← hW1]
      exact ⟨ret_i64 HRF.out.symm, HB.out.1⟩
    · by_cases hl : 100 < nm.length
      · have hl2 : (100 : Int) < (s.size : Int) := by omega
        have HRF : Hid (R = -1) := by show _ = _; rw [HR.out, if_pos (.inr hl)]
        go_enter Try.func34, Try.ntmps34
        go_wp2_with fail
        go_ret
        rw [← hW1]
        exact ⟨ret_i64 HRF.out.symm, HB.out.1⟩
      · have hl2 : ¬ (100 : Int) < (s.size : Int) := by omega
        have HRF : Hid (R = lefts (g - 1) (m - 1) ks) := by show _ = _; rw [HR.out, if_neg (by omega)]
        clear HR
        go_enter Try.func34, Try.ntmps34
        go_wp2_with fail
        rw [← hW1]
        have hsz : W1.heap.size = w.heap.size + 1 := by rw [hW1]; simp
        clear hW1 e0
        go_loopg [2, 7] ks.length (fun gg v2 v7 wr => ∃ (i : Nat) (k : Int), i ≤ ks.length ∧ ks.length - i ≤ gg ∧ v2 = .int .i64 k ∧ v7 = .int .i64 i ∧ -1 ≤ k ∧ k ≤ 1000 ∧ Hid (R = lefts (g - 1) k (ks.drop i)) ∧ Hid (RowKit.Below W1.heap.size W1 wr))
        case atStart => exact ⟨0, m - 1, Nat.zero_le _, by omega, rfl, by simp, by omega, by omega, HRF, Below.refl _ _⟩
        case round =>
          obtain ⟨i, k, hi, hgg, rfl, rfl, hk1, hk2, HM, HW⟩ := hrel
          have q9 : wr.cell? ⟨w.heap.size, 9, none⟩ = some (.slice xq ks.length xc) := (HW.out.cell (p := ⟨w.heap.size, 9, none⟩) (by show w.heap.size < W1.heap.size; omega)).trans HB.out.2
          have HW2 := Lib.hid (HB.out.1.trans (HW.out.mono (by omega)))
          by_cases hlt : i < ks.length
          · have hz : (i : Int) < (ks.length : Int) := by omega
            by_cases hk0 : 0 ≤ k
            · have hq := (HP.out (by omega)).1
              have hbq := (HP.out (by omega)).2.2
              subst hq
              obtain ⟨⟨yq, yc⟩, hc, hn⟩ := KdM.get (KdM.keep HW2.out.size (fun j _ hj => HW2.out.block j hj) (fun _ h _ => h) bq (HP.out (by omega)).2.1 hbq off ks HK.out) i hlt
              have KQ := Lib.hid (KM.out i hlt k (by omega) hk0 hk2 _ _ hn)
              have E3 := Lib.hid (HM.out.trans (lefts_drop (g - 1) k ks i hlt hk0))
              have E4 := Lib.hid (left_bd ks[i] (g - 1) k hk0)
              clear hn
              generalize ks[i] = kk at *
              obtain ⟨op', pl', nm', n', d', ⟨uf', um', ua', ud'⟩, ks'⟩ := kk
              generalize left (g - 1) k (.mk op' pl' nm' n' d' ⟨uf', um', ua', ud'⟩ ks') = mi at *
              simp only [nC] at hc
              simp only [nV, nC] at KQ
              have z0 := hc 0 _ rfl
              have z1 := hc 1 _ rfl
              have z2 := hc 2 _ rfl
              have z3 := hc 3 _ rfl
              have z4 := hc 4 _ rfl
              have z5 := hc 5 _ rfl
              have z6 := hc 6 _ rfl
              have z7 := hc 7 _ rfl
              have z8 := hc 8 _ rfl
              have z9 := hc 9 _ rfl
              rw [Nat.add_zero] at z0
              have e2 : IntKind.i64.wrap ((i : Int) + 1) = ((i + 1 : Nat) : Int) := by rw [IntWalk.i64_in _ (by omega)]; rfl
              clear hc
              go_wp2_with fail
              clear z0 z1 z2 z3 z4 z5 z6 z7 z8 z9 q9
              refine KQ.out.mono ?_
              rintro _ v ⟨rfl, hb⟩
              have HW3 := Lib.hid (HW.out.trans (hb.mono HW.out.size))
              clear hb HW2 KQ
              go_wp2_with fail
              all_goals
                go_roundg (ks.length - (i + 1))
                case measure => omega
                case rel => exact ⟨i + 1, mi, by omega, Nat.le_refl _, rfl, by simp, E4.out.1, by have := E4.out.2; omega, E3, HW3⟩
            · have HRE : Hid (R = k) := by show _ = _; rw [HM.out, lefts_neg _ _ _ (by omega)]
              go_wp2_with fail
              go_ret
              exact ⟨ret_i64 HRE.out.symm, HW2.out⟩
          · have hz : ¬ (i : Int) < (ks.length : Int) := by omega
            have hie : i = ks.length := by omega
            subst hie
            have HRE : Hid (R = k) := by show _ = _; rw [HM.out, List.drop_length]; rfl
            go_wp2_with fail
            go_ret
            exact ⟨ret_i64 HRE.out.symm, HW2.out⟩
set_option maxRecDepth 100000 in
set_option maxHeartbeats 8000000 in
theorem lFewNode_any (t : Nd) (A : Nat → Prop) (x : Kd) (w : World) (hx : NdM w A t x) :
    Calls Try.prog 12 #[nV t x] w fun e w' => e = .returned (.bool (decide (0 ≤ left 30 400 t))) ∧ RowKit.Below w.heap.size w w' := by
  have KT : Hid (∀ V, RowKit.Below w.heap.size w V → Calls Try.prog 34 #[nV t x, .int .i64 30, .int .i64 400] V fun e w' => e = .returned (.int .i64 (left 30 400 t)) ∧ RowKit.Below w.heap.size w w') := fun V hV =>
    (lsize_any (size t) t (Nat.le_refl _) 30 400 (by omega) (by omega) (by omega) (by omega) A x V (NdM.bel hV hx)).mono (fun _ _ ⟨a, d⟩ => ⟨a, hV.trans (d.mono hV.size)⟩)
  clear hx
  obtain ⟨op, pl, nm, n0, d0, ⟨uf, um, ua, ud⟩, ks⟩ := t
  obtain ⟨xq, xc⟩ := x
  generalize left 30 400 (.mk op pl nm n0 d0 ⟨uf, um, ua, ud⟩ ks) = R at *
  simp only [nV, nC] at KT ⊢
  have HB := Lib.hid (Below.refl w.heap.size w)
  by_cases hR : 0 ≤ R
  · go_enter Try.func12, Try.ntmps12
    go_wp2_with fail
    refine (KT.out _ (by repeat' (first | (with_reducible exact HB.out) | (with_reducible refine Below.setCell ?_ ?_ _) | (with_reducible refine Below.alloc ?_ ?_ _) | (with_reducible refine Below.drew ?_) | (with_reducible refine below_drewN ?_ _) | (with_reducible exact Below.refl _ _) | omega | (simp; done) | (simp; omega)))).mono ?_
    rintro _ v ⟨rfl, hb⟩
    have HBB := Lib.hid hb
    clear hb KT
    go_wp2_with fail
    go_ret
    exact ⟨ret_bool (decide_eq_true hR).symm, HBB.out⟩
  · go_enter Try.func12, Try.ntmps12
    go_wp2_with fail
    refine (KT.out _ (by repeat' (first | (with_reducible exact HB.out) | (with_reducible refine Below.setCell ?_ ?_ _) | (with_reducible refine Below.alloc ?_ ?_ _) | (with_reducible refine Below.drew ?_) | (with_reducible refine below_drewN ?_ _) | (with_reducible exact Below.refl _ _) | omega | (simp; done) | (simp; omega)))).mono ?_
    rintro _ v ⟨rfl, hb⟩
    have HBB := Lib.hid hb
    clear hb KT
    go_wp2_with fail
    go_ret
    exact ⟨ret_bool (by first | rfl | simp; omega), HBB.out⟩
end Go.Proofs.Ytjifiijgghpniaa
