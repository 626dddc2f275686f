/- Texts on units: LOpn -/
import Derived.Test.YtoaonficdkgfiaaRows
import Derived.Test.YtoaonficdkgfiaaY14
import Derived.ProofKit
import Derived.OpenShut
import Derived.SizedLaws
import Derived.Lib.RowBridge
import Derived.Deep.SlicePairs
namespace Go.Proofs.Ytoaonficdkgfiaa
open Go.ChangeShapes Go.WideShapes Go.ChangeAt Go.WideMaps Go.WideElems Go.RowKit Un

theorem own : ownKnob Try.prog.godebug = none := by kernel_rfl
theorem laidOut : laidOutB Try.prog = true := by kernel_rfl
theorem cells_int : Try.prog.cellsOf 3 = 1 := by kernel_rfl
theorem cells_bool : Try.prog.cellsOf 4 = 1 := by kernel_rfl
theorem cells_str : Try.prog.cellsOf 9 = 1 := by kernel_rfl
theorem cells_rat : Try.prog.cellsOf 27 = 2 := by kernel_rfl
theorem cells_unit : Try.prog.cellsOf 29 = 4 := by kernel_rfl
theorem cells_nodes : Try.prog.cellsOf 30 = 1 := by kernel_rfl
theorem cells_node : Try.prog.cellsOf 32 = 10 := by kernel_rfl
theorem cells_decl : Try.prog.cellsOf 47 = 8 := by kernel_rfl
theorem cells_span : Try.prog.cellsOf 56 = 2 := by kernel_rfl
theorem cells_rule : Try.prog.cellsOf 58 = 28 := by kernel_rfl
theorem cells_decls : Try.prog.cellsOf 22 = 1 := by kernel_rfl
theorem cells_rules : Try.prog.cellsOf 23 = 1 := by kernel_rfl
theorem cells_codex : Try.prog.cellsOf 25 = 2 := by kernel_rfl
theorem in64_of {a : Int} (h : (Lit.int .i64 a).wf = true) : in64 a := by
 have e1 : IntKind.i64.min = -9223372036854775808 := rfl
 have e2 : IntKind.i64.max = 9223372036854775807 := rfl
 simpa [Lit.wf, e1, e2, in64] using h
theorem list2 {cs : List Value} (h : cs.length = 2) : ∃ v0 v1, cs = [v0, v1] := by
 obtain _ | ⟨v0, cs⟩ := cs
 ·simp at h
 obtain _ | ⟨v1, cs⟩ := cs
 ·simp at h
 obtain _ | ⟨z, cs⟩ := cs
 ·exact ⟨v0, v1, rfl⟩
 ·simp at h
theorem list8 {cs : List Value} (h : cs.length = 8) : ∃ v0 v1 v2 v3 v4 v5 v6 v7, cs = [v0, v1, v2, v3, v4, v5, v6, v7] := by
 obtain _ | ⟨v0, cs⟩ := cs
 ·simp at h
 obtain _ | ⟨v1, cs⟩ := cs
 ·simp at h
 obtain _ | ⟨v2, cs⟩ := cs
 ·simp at h
 obtain _ | ⟨v3, cs⟩ := cs
 ·simp at h
 obtain _ | ⟨v4, cs⟩ := cs
 ·simp at h
 obtain _ | ⟨v5, cs⟩ := cs
 ·simp at h
 obtain _ | ⟨v6, cs⟩ := cs
 ·simp at h
 obtain _ | ⟨v7, cs⟩ := cs
 ·simp at h
 obtain _ | ⟨z, cs⟩ := cs
 ·exact ⟨v0, v1, v2, v3, v4, v5, v6, v7, rfl⟩
 ·simp at h
theorem list10 {cs : List Value} (h : cs.length = 10) : ∃ v0 v1 v2 v3 v4 v5 v6 v7 v8 v9, cs = [v0, v1, v2, v3, v4, v5, v6, v7, v8, v9] := by
 obtain _ | ⟨v0, cs⟩ := cs
 ·simp at h
 obtain _ | ⟨v1, cs⟩ := cs
 ·simp at h
 obtain _ | ⟨v2, cs⟩ := cs
 ·simp at h
 obtain _ | ⟨v3, cs⟩ := cs
 ·simp at h
 obtain _ | ⟨v4, cs⟩ := cs
 ·simp at h
 obtain _ | ⟨v5, cs⟩ := cs
 ·simp at h
 obtain _ | ⟨v6, cs⟩ := cs
 ·simp at h
 obtain _ | ⟨v7, cs⟩ := cs
 ·simp at h
 obtain _ | ⟨v8, cs⟩ := cs
 ·simp at h
 obtain _ | ⟨v9, cs⟩ := cs
 ·simp at h
 obtain _ | ⟨z, cs⟩ := cs
 ·exact ⟨v0, v1, v2, v3, v4, v5, v6, v7, v8, v9, rfl⟩
 ·simp at h
theorem list28 {cs : List Value} (h : cs.length = 28) : ∃ v0 v1 v2 v3 v4 v5 v6 v7 v8 v9 v10 v11 v12 v13 v14 v15 v16 v17 v18 v19 v20 v21 v22 v23 v24 v25 v26 v27, cs = [v0, v1, v2, v3, v4, v5, v6, v7, v8, v9, v10, v11, v12, v13, v14, v15, v16, v17, v18, v19, v20, v21, v22, v23, v24, v25, v26, v27] := by
 obtain _ | ⟨v0, cs⟩ := cs
 ·simp at h
 obtain _ | ⟨v1, cs⟩ := cs
 ·simp at h
 obtain _ | ⟨v2, cs⟩ := cs
 ·simp at h
 obtain _ | ⟨v3, cs⟩ := cs
 ·simp at h
 obtain _ | ⟨v4, cs⟩ := cs
 ·simp at h
 obtain _ | ⟨v5, cs⟩ := cs
 ·simp at h
 obtain _ | ⟨v6, cs⟩ := cs
 ·simp at h
 obtain _ | ⟨v7, cs⟩ := cs
 ·simp at h
 obtain _ | ⟨v8, cs⟩ := cs
 ·simp at h
 obtain _ | ⟨v9, cs⟩ := cs
 ·simp at h
 obtain _ | ⟨v10, cs⟩ := cs
 ·simp at h
 obtain _ | ⟨v11, cs⟩ := cs
 ·simp at h
 obtain _ | ⟨v12, cs⟩ := cs
 ·simp at h
 obtain _ | ⟨v13, cs⟩ := cs
 ·simp at h
 obtain _ | ⟨v14, cs⟩ := cs
 ·simp at h
 obtain _ | ⟨v15, cs⟩ := cs
 ·simp at h
 obtain _ | ⟨v16, cs⟩ := cs
 ·simp at h
 obtain _ | ⟨v17, cs⟩ := cs
 ·simp at h
 obtain _ | ⟨v18, cs⟩ := cs
 ·simp at h
 obtain _ | ⟨v19, cs⟩ := cs
 ·simp at h
 obtain _ | ⟨v20, cs⟩ := cs
 ·simp at h
 obtain _ | ⟨v21, cs⟩ := cs
 ·simp at h
 obtain _ | ⟨v22, cs⟩ := cs
 ·simp at h
 obtain _ | ⟨v23, cs⟩ := cs
 ·simp at h
 obtain _ | ⟨v24, cs⟩ := cs
 ·simp at h
 obtain _ | ⟨v25, cs⟩ := cs
 ·simp at h
 obtain _ | ⟨v26, cs⟩ := cs
 ·simp at h
 obtain _ | ⟨v27, cs⟩ := cs
 ·simp at h
 obtain _ | ⟨z, cs⟩ := cs
 ·exact ⟨v0, v1, v2, v3, v4, v5, v6, v7, v8, v9, v10, v11, v12, v13, v14, v15, v16, v17, v18, v19, v20, v21, v22, v23, v24, v25, v26, v27, rfl⟩
 ·simp at h
section
variable {H : Type} {enc : TypeId × Value → H} {W : World} {base : Nat} {spare : Nat → Bool} {held : Bool}
theorem fld {fs : Array Field} {xs : List (DataW H × List MemPlace)} {n : Nat} {cs : List Value} (hl : xs.length = fs.size)
  (h : ∀ (i : Nat) (f : Field), fs[i]? = some f → DataW.trod enc Try.prog W base spare held n f.type ((cs.drop f.offset).take (Try.prog.cellsOf f.type)) = xs[i]?)
  (i : Nat) {T o c : Nat} (hi : (fs[i]?).map (fun f => (f.type, f.offset)) = some (T, o)) (hc : Try.prog.cellsOf T = c) : ∃ y, DataW.trod enc Try.prog W base spare held n T ((cs.drop o).take c) = some y := by
 obtain ⟨f, hf, he⟩ := Option.map_eq_some_iff.1 hi
 injection he with h1 h2
 subst h1 h2 hc
 have hlt : i < xs.length := by rw [hl]; exact (Array.getElem?_eq_some_iff.1 hf).1
 exact ⟨xs[i], (h i f hf).trans (List.getElem?_eq_getElem hlt)⟩
theorem cell_int {n : Nat} {v : Value} {x : DataW H × List MemPlace} (h : DataW.trod enc Try.prog W base spare held n 3 [v] = some x) : ∃ z, v = .int .i64 z ∧ in64 z := by
 obtain ⟨z, h1, _, h3⟩ := DataW.trod_int Try.underlying3 h
 injection h1 with h1 _
 exact ⟨z, h1, in64_of h3⟩
theorem cell_bool {n : Nat} {v : Value} {x : DataW H × List MemPlace} (h : DataW.trod enc Try.prog W base spare held n 4 [v] = some x) : ∃ z, v = .bool z := by
 obtain ⟨z, h1, _⟩ := DataW.trod_bool Try.underlying4 h
 injection h1 with h1 _
 exact ⟨z, h1⟩
theorem cell_str {n : Nat} {v : Value} {x : DataW H × List MemPlace} (h : DataW.trod enc Try.prog W base spare held n 9 [v] = some x) : ∃ s : List UInt8, v = .string (bs s) := by
 obtain ⟨s, h1, _⟩ := DataW.trod_string Try.underlying9 h
 injection h1 with h1 _
 exact ⟨s.data.toList, by rw [h1, ← bs_of]⟩
theorem cell_unit {n : Nat} {v0 v1 v2 v3 : Value} {x : DataW H × List MemPlace} (h : DataW.trod enc Try.prog W base spare held n 29 [v0, v1, v2, v3] = some x) : ∃ u : U, v0 = .bool u.f ∧ v1 = .int .i64 u.m ∧ v2 = .int .i64 u.a ∧ v3 = .int .i64 u.d := by
 obtain ⟨xs, k, _, _, _, hxl, hf⟩ := DataW.trod_struct Try.underlying29 h
 obtain ⟨y0, h0⟩ := fld hxl hf 0 rfl cells_bool
 obtain ⟨y1, h1⟩ := fld hxl hf 1 rfl cells_int
 obtain ⟨y2, h2⟩ := fld hxl hf 2 rfl cells_int
 obtain ⟨y3, h3⟩ := fld hxl hf 3 rfl cells_int
 obtain ⟨a, rfl⟩ := cell_bool h0
 obtain ⟨b, rfl, _⟩ := cell_int h1
 obtain ⟨c, rfl, _⟩ := cell_int h2
 obtain ⟨d, rfl, _⟩ := cell_int h3
 exact ⟨⟨a, b, c, d⟩, rfl, rfl, rfl, rfl⟩
theorem cell_rat {n : Nat} {v0 v1 : Value} {x : DataW H × List MemPlace} (h : DataW.trod enc Try.prog W base spare held n 27 [v0, v1] = some x) : ∃ a b, v0 = .int .i64 a ∧ v1 = .int .i64 b ∧ in64 a ∧ in64 b := by
 obtain ⟨xs, k, _, _, _, hxl, hf⟩ := DataW.trod_struct Try.underlying27 h
 obtain ⟨y0, h0⟩ := fld hxl hf 0 rfl cells_int
 obtain ⟨y1, h1⟩ := fld hxl hf 1 rfl cells_int
 obtain ⟨a, rfl, ha⟩ := cell_int h0
 obtain ⟨b, rfl, hb⟩ := cell_int h1
 exact ⟨a, b, rfl, rfl, ha, hb⟩
theorem cell_span {n : Nat} {v0 v1 : Value} {x : DataW H × List MemPlace} (h : DataW.trod enc Try.prog W base spare held n 56 [v0, v1] = some x) : ∃ a b, v0 = .int .i64 a ∧ v1 = .int .i64 b := by
 obtain ⟨xs, k, _, _, _, hxl, hf⟩ := DataW.trod_struct Try.underlying56 h
 obtain ⟨y0, h0⟩ := fld hxl hf 0 rfl cells_int
 obtain ⟨y1, h1⟩ := fld hxl hf 1 rfl cells_int
 obtain ⟨a, rfl, _⟩ := cell_int h0
 obtain ⟨b, rfl, _⟩ := cell_int h1
 exact ⟨a, b, rfl, rfl⟩
theorem cells_decl_of {n : Nat} {cs : List Value} {x : DataW H × List MemPlace} (h : DataW.trod enc Try.prog W base spare held n 47 cs = some x) : ∃ d : Dc, cs = dC d := by
 obtain ⟨xs, k, _, _, hl, hxl, hf⟩ := DataW.trod_struct Try.underlying47 h
 rw [cells_decl] at hl
 obtain ⟨y0, h0⟩ := fld hxl hf 0 rfl cells_str
 obtain ⟨y1, h1⟩ := fld hxl hf 1 rfl cells_unit
 obtain ⟨y2, h2⟩ := fld hxl hf 2 rfl cells_int
 obtain ⟨y3, h3⟩ := fld hxl hf 3 rfl cells_int
 obtain ⟨y4, h4⟩ := fld hxl hf 4 rfl cells_int
 obtain ⟨v0, v1, v2, v3, v4, v5, v6, v7, rfl⟩ := list8 hl
 obtain ⟨s, rfl⟩ := cell_str h0
 obtain ⟨u, rfl, rfl, rfl, rfl⟩ := cell_unit h1
 obtain ⟨a, rfl, _⟩ := cell_int h2
 obtain ⟨b, rfl, _⟩ := cell_int h3
 obtain ⟨c, rfl, _⟩ := cell_int h4
 exact ⟨⟨s, u, a, b, c⟩, rfl⟩
end
theorem KdM.mk {w : World} {A : Nat → Prop} {b : Nat} : ∀ (ks : List Nd) (off : Nat), (∀ (i : Nat) (h : i < ks.length), ∃ x : Kd, (∀ (j : Nat) (v : Value), (nC ks[i] x)[j]? = some v → w.cell? ⟨b, off + i * 10 + j, none⟩ = some v) ∧ NdM w A ks[i] x) → KdM w A b off ks
 | [], _, _ => by simp only [KdM]
 | k :: ks, off, h => by
  simp only [KdM]
  refine ⟨?_, KdM.mk ks (off + 10) fun i hi => ?_⟩
  ·obtain ⟨x, h1, h2⟩ := h 0 (Nat.succ_pos _)
   refine ⟨x, fun j v hv => ?_, h2⟩
   have := h1 j v hv
   rwa [show off + 0 * 10 + j = off + j by omega] at this
  ·obtain ⟨x, h1, h2⟩ := h (i + 1) (Nat.succ_lt_succ hi)
   refine ⟨x, fun j v hv => ?_, h2⟩
   have := h1 j v hv
   rwa [show off + (i + 1) * 10 + j = off + 10 + i * 10 + j by omega] at this
theorem nins_mk : ∀ (ks : List Nd), (∀ k ∈ ks, nin k) → nins ks
 | [], _ => by simp only [nins]
 | k :: ks, h => by
  simp only [nins]
  exact ⟨h k List.mem_cons_self, nins_mk ks fun k hk => h k (List.mem_cons_of_mem _ hk)⟩
theorem ad0 (b off : Nat) : ∀ i, (⟨b, off, none⟩ : Addr).add i = ⟨b, off + i, none⟩ := fun i => by unfold Addr.add; split <;> simp_all
/-- An expression that came in, with all its operands. -/
theorem trod_node {H : Type} {enc : TypeId × Value → H} {W : World} (N : Nat) : ∀ (fuel : Nat), fuel ≤ N → ∀ (cs : List Value) (x : DataW H × List MemPlace), DataW.trod enc Try.prog W 0 (fun _ => true) true fuel 32 cs = some x → ∃ (t : Nd) (y : Kd), cs = nC t y ∧ NdM W (fun _ => True) t y ∧ nin t := by
 induction N with
 | zero =>
  intro fuel hf cs x h
  obtain ⟨_, k, hk, _⟩ := DataW.trod_struct Try.underlying32 h
  omega
 | succ N ih =>
  intro fuel hfu cs x h
  obtain ⟨xs, k, hk, _, hl, hxl, hf⟩ := DataW.trod_struct Try.underlying32 h
  rw [cells_node] at hl
  obtain ⟨y0, h0⟩ := fld hxl hf 0 rfl cells_int
  obtain ⟨y1, h1⟩ := fld hxl hf 1 rfl cells_int
  obtain ⟨y2, h2⟩ := fld hxl hf 2 rfl cells_str
  obtain ⟨y3, h3⟩ := fld hxl hf 3 rfl cells_rat
  obtain ⟨y4, h4⟩ := fld hxl hf 4 rfl cells_unit
  obtain ⟨y5, h5⟩ := fld hxl hf 5 rfl cells_nodes
  obtain ⟨v0, v1, v2, v3, v4, v5, v6, v7, v8, v9, rfl⟩ := list10 hl
  obtain ⟨op, rfl, _⟩ := cell_int h0
  obtain ⟨pl, rfl, _⟩ := cell_int h1
  obtain ⟨s, rfl⟩ := cell_str h2
  obtain ⟨n, d, rfl, rfl, hn, hd⟩ := cell_rat h3
  obtain ⟨u, rfl, rfl, rfl, rfl⟩ := cell_unit h4
  clear h0 h1 h2 h3 h4 hf hxl h
  rcases DataW.trod_slice Try.underlying30 h5 with ⟨hcs, _⟩ | ⟨a, len, cap, elems, rest, m, hm, hcs, _, _, hle, hmx, hel, he, _, _⟩
  ·injection hcs with hcs _
   subst hcs
   refine ⟨.mk op pl s n d u [], ⟨none, 0⟩, rfl, ?_, ?_⟩
   ·simp only [NdM]
    exact ⟨0, 0, fun h => absurd h (by simp), by simp, by simp only [KdM]⟩
   ·simp only [nin, nins]
    exact ⟨hn, hd, trivial⟩
  ·injection hcs with hcs _
   subst hcs
   have num : ∀ i, i < len → ∃ (t : Nd) (y : Kd), (∀ (j : Nat) (v : Value), (nC t y)[j]? = some v → W.cell? (a.add (i * 10 + j)) = some v) ∧ NdM W (fun _ => True) t y ∧ nin t := by
    intro i hi
    have hi' := he i hi
    rw [List.getElem?_eq_getElem (by omega), cells_node] at hi'
    obtain ⟨cs', c1, c2⟩ := Option.bind_eq_some_iff.1 hi'
    obtain ⟨_, hlen, hcell⟩ := World.cells?_some c1
    obtain ⟨t, y, rfl, h2, h3⟩ := ih m (by omega) cs' _ c2
    refine ⟨t, y, fun j v hv => ?_, h2, h3⟩
    have hj := (List.getElem?_eq_some_iff.1 hv).1
    have := hcell j (by omega)
    rw [Go.Deep.add_add] at this
    rw [this, hv]
   by_cases h00 : len = 0
   ·subst h00
    refine ⟨.mk op pl s n d u [], ⟨some a, cap⟩, rfl, ?_, ?_⟩
    ·simp only [NdM]
     exact ⟨0, 0, fun h => absurd h (by simp), by simp, by simp only [KdM]⟩
    ·simp only [nin, nins]
     exact ⟨hn, hd, trivial⟩
   ·obtain ⟨b, off, spot⟩ := a
    have hspot : spot = none := by
     obtain ⟨t, y, c0, _⟩ := num 0 (by omega)
     have hlt := nC_len t y
     have := World.cell?_spot (c0 0 _ (List.getElem?_eq_getElem (by omega)))
     simpa [Addr.add] using this
    subst hspot
    simp only [ad0] at num
    have each : ∀ i, ∃ (q : Nd × Kd), i < len → (∀ (j : Nat) (v : Value), (nC q.1 q.2)[j]? = some v → W.cell? ⟨b, off + (i * 10 + j), none⟩ = some v) ∧ NdM W (fun _ => True) q.1 q.2 ∧ nin q.1 := fun i => by
     by_cases hi : i < len
     ·obtain ⟨t, y, h⟩ := num i hi
      exact ⟨(t, y), fun _ => h⟩
     ·exact ⟨(.mk 0 0 [] 0 0 u [], ⟨none, 0⟩), fun h => absurd h hi⟩
    obtain ⟨X, hX⟩ := (⟨fun i => (each i).choose, fun i => (each i).choose_spec⟩ : ∃ X : Nat → Nd × Kd, ∀ i, i < len → (∀ (j : Nat) (v : Value), (nC (X i).1 (X i).2)[j]? = some v → W.cell? ⟨b, off + (i * 10 + j), none⟩ = some v) ∧ NdM W (fun _ => True) (X i).1 (X i).2 ∧ nin (X i).1)
    have hll : ((List.range len).map fun i => (X i).1).length = len := by simp
    have hb : b < W.heap.size := by
     have hlt := nC_len (X 0).1 (X 0).2
     exact World.block_lt_of_cell? _ _ ((hX 0 (by omega)).1 0 _ (List.getElem?_eq_getElem (by omega)))
    refine ⟨.mk op pl s n d u ((List.range len).map fun i => (X i).1), ⟨some ⟨b, off, none⟩, cap⟩, ?_, ?_, ?_⟩
    ·simp only [nC, hll]
    ·simp only [NdM, hll]
     refine ⟨b, off, fun _ => ⟨rfl, trivial, hb⟩, by unfold maxLen at hmx; omega, KdM.mk _ _ fun i hi => ?_⟩
     rw [hll] at hi
     rw [List.getElem_map, List.getElem_range]
     refine ⟨(X i).2, fun j v hv => ?_, (hX i hi).2.1⟩
     rw [Nat.add_assoc]
     exact (hX i hi).1 j v hv
    ·simp only [nin]
     refine ⟨hn, hd, nins_mk _ fun k hk => ?_⟩
     obtain ⟨i, hi, rfl⟩ := List.mem_map.1 hk
     exact (hX i (List.mem_range.1 hi)).2.2
theorem open_node {H : Type} {enc : TypeId × Value → H} {W : World} {cs : Array Value} {d : DataW H} {ps : List MemPlace} (h : DataW.Trod enc Try.prog W 0 (fun _ => true) true 32 (.agg cs) d ps) :
  ∃ (t : Nd) (y : Kd), (.agg cs : Value) = nV t y ∧ NdM W (fun _ => True) t y ∧ nin t := by
 obtain ⟨fuel, hf⟩ := h
 obtain ⟨t, y, h1, h2, h3⟩ := trod_node fuel fuel (Nat.le_refl _) _ _ hf
 simp only [Value.cells] at h1
 refine ⟨t, y, ?_, h2, h3⟩
 unfold nV
 rw [← h1]
/-- A slice of rows that came in. -/
theorem open_rows {H : Type} {enc : TypeId × Value → H} {W : World} {T E n : Nat} {ρ : Type} (cells : ρ → List Value) (G : ρ → Prop) (r0 : ρ) (hT : Try.prog.underlying T = some (.slice E)) (hE : Try.prog.cellsOf E = n) (hn : 0 < n) (hc : ∀ r, (cells r).length = n)
  (hrow : ∀ (fuel : Nat) (cs : List Value) (x : DataW H × List MemPlace), DataW.trod enc Try.prog W 0 (fun _ => true) true fuel E cs = some x → ∃ r, cs = cells r ∧ G r)
  {fuel : Nat} {v : Value} {x : DataW H × List MemPlace} (h : DataW.trod enc Try.prog W 0 (fun _ => true) true fuel T [v] = some x) :
  ∃ (l : List ρ) (a0 : Option Addr) (b off cap : Nat), v = .slice a0 l.length cap ∧ SlR W a0 b off l.length n (l.map cells) ∧ ∀ r ∈ l, G r := by
 rcases DataW.trod_slice hT h with ⟨hcs, _⟩ | ⟨a, len, cap, elems, rest, m, hm, hcs, _, _, hle, hmx, hel, he, _, _⟩
 ·injection hcs with hcs _
  exact ⟨[], none, 0, 0, 0, hcs, SlR.nil _ _ _ _ _, fun r hr => absurd hr List.not_mem_nil⟩
 ·injection hcs with hcs _
  have num : ∀ i, i < len → ∃ r : ρ, (∀ (j : Nat) (v : Value), (cells r)[j]? = some v → W.cell? (a.add (i * n + j)) = some v) ∧ G r := by
   intro i hi
   have hi' := he i hi
   rw [List.getElem?_eq_getElem (by omega), hE] at hi'
   obtain ⟨cs', c1, c2⟩ := Option.bind_eq_some_iff.1 hi'
   obtain ⟨_, hlen, hcell⟩ := World.cells?_some c1
   obtain ⟨r, rfl, h2⟩ := hrow m cs' _ c2
   refine ⟨r, fun j v hv => ?_, h2⟩
   have hj := (List.getElem?_eq_some_iff.1 hv).1
   have := hcell j (by have := hc r; omega)
   rw [Go.Deep.add_add] at this
   rw [this, hv]
  by_cases h00 : len = 0
  ·subst h00
   exact ⟨[], some a, 0, 0, cap, hcs, SlR.nil _ _ _ _ _, fun r hr => absurd hr List.not_mem_nil⟩
  ·obtain ⟨b, off, spot⟩ := a
   have hspot : spot = none := by
    obtain ⟨r, c0, _⟩ := num 0 (by omega)
    have := World.cell?_spot (c0 0 _ (List.getElem?_eq_getElem (by have := hc r; omega)))
    simpa [Addr.add] using this
   subst hspot
   simp only [ad0] at num
   have each : ∀ i, ∃ q : ρ, i < len → (∀ (j : Nat) (v : Value), (cells q)[j]? = some v → W.cell? ⟨b, off + (i * n + j), none⟩ = some v) ∧ G q := fun i => by
    by_cases hi : i < len
    ·obtain ⟨r, h⟩ := num i hi
     exact ⟨r, fun _ => h⟩
    ·exact ⟨r0, fun h => absurd h hi⟩
   obtain ⟨X, hX⟩ := (⟨fun i => (each i).choose, fun i => (each i).choose_spec⟩ : ∃ X : Nat → ρ, ∀ i, i < len → (∀ (j : Nat) (v : Value), (cells (X i))[j]? = some v → W.cell? ⟨b, off + (i * n + j), none⟩ = some v) ∧ G (X i))
   have hll : ((List.range len).map X).length = len := by simp
   refine ⟨(List.range len).map X, some ⟨b, off, none⟩, b, off, cap, by rw [hll]; exact hcs, ⟨by simp, fun _ => rfl, fun i r hr => ?_, fun _ => ?_, by rw [hll]; unfold maxLen at hmx; omega⟩, fun r hr => ?_⟩
   ·rw [List.getElem?_map] at hr
    obtain ⟨q, hq, rfl⟩ := Option.map_eq_some_iff.1 hr
    rw [List.getElem?_map] at hq
    obtain ⟨k, hk, rfl⟩ := Option.map_eq_some_iff.1 hq
    obtain ⟨hk1, hk2⟩ := List.getElem?_eq_some_iff.1 hk
    rw [List.length_range] at hk1
    rw [List.getElem_range] at hk2
    subst hk2
    refine ⟨hc _, fun j v hv => ?_⟩
    rw [Nat.add_assoc]
    exact (hX i hk1).1 j v hv
   ·exact World.block_lt_of_cell? _ _ ((hX 0 (by omega)).1 0 _ (List.getElem?_eq_getElem (by have := hc (X 0); omega)))
   ·obtain ⟨i, hi, rfl⟩ := List.mem_map.1 hr
    exact (hX i (List.mem_range.1 hi)).2
/-- Declarations that came in. -/
theorem trod_decls {H : Type} {enc : TypeId × Value → H} {W : World} {fuel : Nat} {v : Value} {x : DataW H × List MemPlace} (h : DataW.trod enc Try.prog W 0 (fun _ => true) true fuel 22 [v] = some x) :
  ∃ (L : List Dc) (a0 : Option Addr) (b off cap : Nat), v = .slice a0 L.length cap ∧ SlR W a0 b off L.length 8 (L.map dC) := by
 obtain ⟨L, a0, b, off, cap, h1, h2, _⟩ := open_rows dC (fun _ => True) ⟨[], uNum, 0, 0, 0⟩ Try.underlying22 cells_decl (by omega) (fun _ => rfl) (fun _ _ _ h => by obtain ⟨d, hd⟩ := cells_decl_of h; exact ⟨d, hd, trivial⟩) h
 exact ⟨L, a0, b, off, cap, h1, h2⟩
/-- Rules that came in, with their expressions. -/
theorem cells_rule_of {H : Type} {enc : TypeId × Value → H} {W : World} {n : Nat} {cs : List Value} {x : DataW H × List MemPlace} (h : DataW.trod enc Try.prog W 0 (fun _ => true) true n 58 cs = some x) : ∃ r : Ru × Kd × Kd, cs = rC r.1 r.2.1 r.2.2 ∧ RuM W (fun _ => True) r.1 r.2.1 r.2.2 ∧ RuN r.1 := by
 obtain ⟨xs, k, _, _, hl, hxl, hf⟩ := DataW.trod_struct Try.underlying58 h
 rw [cells_rule] at hl
 obtain ⟨y0, h0⟩ := fld hxl hf 0 rfl cells_str
 obtain ⟨y1, h1⟩ := fld hxl hf 1 rfl cells_int
 obtain ⟨y2, h2⟩ := fld hxl hf 2 rfl cells_int
 obtain ⟨y3, h3⟩ := fld hxl hf 3 rfl cells_str
 obtain ⟨y4, h4⟩ := fld hxl hf 4 rfl cells_span
 obtain ⟨y5, h5⟩ := fld hxl hf 5 rfl cells_int
 obtain ⟨y6, h6⟩ := fld hxl hf 6 rfl cells_node
 obtain ⟨y7, h7⟩ := fld hxl hf 7 rfl cells_node
 obtain ⟨y8, h8⟩ := fld hxl hf 8 rfl cells_int
 obtain ⟨v0, v1, v2, v3, v4, v5, v6, v7, v8, v9, v10, v11, v12, v13, v14, v15, v16, v17, v18, v19, v20, v21, v22, v23, v24, v25, v26, v27, rfl⟩ := list28 hl
 obtain ⟨s, rfl⟩ := cell_str h0
 obtain ⟨a1, rfl, _⟩ := cell_int h1
 obtain ⟨a2, rfl, _⟩ := cell_int h2
 obtain ⟨s3, rfl⟩ := cell_str h3
 obtain ⟨a4, a5, rfl, rfl⟩ := cell_span h4
 obtain ⟨a6, rfl, _⟩ := cell_int h5
 obtain ⟨t, y, e6, n6, i6⟩ := trod_node k k (Nat.le_refl _) _ _ h6
 obtain ⟨u, z, e7, n7, i7⟩ := trod_node k k (Nat.le_refl _) _ _ h7
 obtain ⟨a8, rfl, _⟩ := cell_int h8
 refine ⟨(⟨s, a1, a2, s3, a4, a5, a6, t, u, a8⟩, y, z), ?_, ⟨n6, n7⟩, ⟨i6, i7⟩⟩
 have e6 : [v7, v8, v9, v10, v11, v12, v13, v14, v15, v16] = nC t y := e6
 have e7 : [v17, v18, v19, v20, v21, v22, v23, v24, v25, v26] = nC u z := e7
 simp only [rC]
 rw [← e6, ← e7]
 rfl
theorem rC_len (r : Ru) (x y : Kd) : (rC r x y).length = 28 := (RuC.of r x y).len
end Go.Proofs.Ytoaonficdkgfiaa
