/-
  Slices of tokens: how they lie in memory; those of a call's own, and an append of one token onto them.
-/
import Derived.Test.YtoaeceeookknnaaDoorLToken
import Derived.Deep.DrawnRows
namespace Go.Proofs.YtoaeceeookknnaaDoor
open Go.RowKit Lx

def vi (x : Int) : Value := .int .i64 x
theorem infoT : (Tryd.prog.info? 32).map (fun i => (i.zero, i.size, i.bytes)) = some (some (.agg #[.int .i64 0, .int .i64 0, .string ⟨#[]⟩, .int .i64 0, .int .i64 0]), 5, 48) := by kernel_rfl
def flT : List Tok → List Value
  | [] => []
  | x :: l => vi (x.k) :: vi (x.a) :: .string (bs x.t) :: vi (x.n) :: vi (x.d) :: flT l
theorem flT_len : ∀ l, (flT l).length = l.length * 5
  | [] => rfl
  | x :: l => by simp only [flT, List.length_cons, flT_len l]; omega
theorem flT_app : ∀ l m, flT (l ++ m) = flT l ++ flT m
  | [], _ => rfl
  | x :: l, m => by rw [List.cons_append, flT, flT, flT_app]; rfl
theorem flT_at : ∀ (l : List Tok) (k : Nat) (h : k < l.length), (flT l)[k * 5]? = some (vi (l[k].k)) ∧ (flT l)[k * 5 + 1]? = some (vi (l[k].a)) ∧ (flT l)[k * 5 + 2]? = some (.string (bs l[k].t)) ∧ (flT l)[k * 5 + 3]? = some (vi (l[k].n)) ∧ (flT l)[k * 5 + 4]? = some (vi (l[k].d))
  | x :: l, 0, _ => ⟨rfl, rfl, rfl, rfl, rfl⟩
  | x :: l, k + 1, h => by
    have := flT_at l k (by simpa using h)
    rw [show (k + 1) * 5 = k * 5 + 1 + 1 + 1 + 1 + 1 by omega]
    simp only [flT, List.getElem_cons_succ, Nat.add_assoc, Nat.reduceAdd] at this ⊢
    exact this
theorem flT_one : ∀ (l : List Tok) (u : Value), u ∈ flT l → u.oneCell' = true
  | x :: l, u, h => by
    simp only [flT, List.mem_cons] at h
    rcases h with rfl | rfl | rfl | rfl | rfl | h
    · rfl
    · rfl
    · rfl
    · rfl
    · rfl
    · exact flT_one l u h
/-- A slice of the call's own that reads as a list. -/
def OwnT (w : World) (base : Nat) (v : Value) (l : List Tok) : Prop := w.ownsRow base 32 5 v l.length (flT l)
theorem OwnT.empty (w : World) (base : Nat) : OwnT w base (.slice none 0 0) [] := World.ownsRow_nil _ _ _ _
theorem OwnT.block {w : World} {base : Nat} {v : Value} {l : List Tok} (h : OwnT w base v l) : ∀ k, v.ownBlock = some k → base ≤ k := by
  intro k hk
  rcases h.2 with ⟨rfl, _⟩ | ⟨g, cap, cur, rfl, hg, _⟩
  · cases hk
  · simp [Value.ownBlock] at hk; omega
theorem OwnT.alloc {w : World} {base : Nat} {v : Value} {l : List Tok} (h : OwnT w base v l) (o : Obj) : OwnT (w.alloc o) base v l := World.ownsRow.alloc h o
theorem OwnT.lt {w : World} {base : Nat} {v : Value} {l : List Tok} (h : OwnT w base v l) : ∀ k, v.ownBlock = some k → k < w.heap.size := by
  intro k hk
  rcases h.2 with ⟨rfl, _⟩ | ⟨g, cap, cur, rfl, hg, hb, _⟩
  · cases hk
  · obtain rfl : g = k := by simpa [Value.ownBlock] using hk
    rcases Nat.lt_or_ge g w.heap.size with z | z
    · exact z
    · rw [Array.getElem?_eq_none z] at hb; cases hb
/-- It reads on where one other block alone may have changed. -/
theorem OwnT.kept {w w' : World} {base b : Nat} {v : Value} {l : List Tok} (h : OwnT w base v l) (hB : Kept b w w') (hb' : b < base) : OwnT w' base v l := by
  refine ⟨h.1, ?_⟩
  rcases h.2 with ⟨h1, h2⟩ | ⟨g, cap, cur, hv, hg, hb, hr⟩
  · exact .inl ⟨h1, h2⟩
  · refine .inr ⟨g, cap, cur, hv, hg, ?_, hr⟩
    have hlt : g < w.heap.size := by
      rcases Nat.lt_or_ge g w.heap.size with z | z
      · exact z
      · rw [Array.getElem?_eq_none z] at hb; cases hb
    rw [hB.block g hlt (by omega)]; exact hb
theorem OwnT.below {w w' : World} {base : Nat} {v : Value} {l : List Tok} (h : OwnT w base v l) (hB : RowKit.Below w.heap.size w w') : OwnT w' base v l := by
  refine ⟨h.1, ?_⟩
  rcases h.2 with ⟨h1, h2⟩ | ⟨g, cap, cur, hv, hg, hb, hr⟩
  · exact .inl ⟨h1, h2⟩
  · refine .inr ⟨g, cap, cur, hv, hg, ?_, hr⟩
    have hlt : g < w.heap.size := by
      rcases Nat.lt_or_ge g w.heap.size with z | z
      · exact z
      · rw [Array.getElem?_eq_none z] at hb; cases hb
    rw [hB.block g hlt]; exact hb
/-- A list of tokens lies in a block, from a place on. -/
def AtT (w : World) (b off : Nat) (l : List Tok) : Prop := ∀ (k : Nat) (h : k < l.length), w.cell? ⟨b, off + k * 5, none⟩ = some (.int .i64 l[k].k) ∧ w.cell? ⟨b, off + k * 5 + 1, none⟩ = some (.int .i64 l[k].a) ∧
  w.cell? ⟨b, off + k * 5 + 2, none⟩ = some (.string (bs l[k].t)) ∧ w.cell? ⟨b, off + k * 5 + 3, none⟩ = some (.int .i64 l[k].n) ∧ w.cell? ⟨b, off + k * 5 + 4, none⟩ = some (.int .i64 l[k].d)
/-- A slice reads as a list of tokens. -/
structure SlT (w : World) (p : Option Addr) (b off len : Nat) (l : List Tok) : Prop where
  ln : l.length = len
  ptr : 0 < len → p = some ⟨b, off, none⟩
  cells : AtT w b off l
  lt : 0 < len → b < w.heap.size
  max : len ≤ 1000000
theorem SlT.below {w w1 : World} {p : Option Addr} {b off len B : Nat} {l : List Tok} (h : SlT w p b off len l) (hB : RowKit.Below B w w1) (hb : 0 < len → b < B) : SlT w1 p b off len l :=
  ⟨h.ln, h.ptr, fun k hk => by
    have hb := hb (by have := h.ln; omega)
    obtain ⟨c0, c1, c2, c3, c4⟩ := h.cells k hk
    exact ⟨(hB.cell (p := ⟨b, off + k * 5, none⟩) hb).trans c0, (hB.cell (p := ⟨b, off + k * 5 + 1, none⟩) hb).trans c1, (hB.cell (p := ⟨b, off + k * 5 + 2, none⟩) hb).trans c2, (hB.cell (p := ⟨b, off + k * 5 + 3, none⟩) hb).trans c3, (hB.cell (p := ⟨b, off + k * 5 + 4, none⟩) hb).trans c4⟩,
    fun x => Nat.lt_of_lt_of_le (h.lt x) hB.size, h.max⟩
theorem SlT.bel {w w1 : World} {p : Option Addr} {b off len : Nat} {l : List Tok} (h : SlT w p b off len l) (hB : RowKit.Below w.heap.size w w1) : SlT w1 p b off len l := h.below hB h.lt
theorem SlT.nil (w : World) (p : Option Addr) : SlT w p 0 0 0 [] := ⟨rfl, fun h => by omega, fun k h => by simp at h, fun h => by omega, by omega⟩
theorem SlT.of_block {w w1 : World} {p : Option Addr} {b off len : Nat} {l : List Tok} (h : SlT w p b off len l) (hb : 0 < len → w1.heap[b]? = w.heap[b]?) (hs : w.heap.size ≤ w1.heap.size) : SlT w1 p b off len l :=
  ⟨h.ln, h.ptr, fun k hk => by
    have hb := hb (by have := h.ln; omega)
    obtain ⟨c0, c1, c2, c3, c4⟩ := h.cells k hk
    exact ⟨(World.cell?_of_block (w := w) (a := ⟨b, off + k * 5, none⟩) hb).trans c0, (World.cell?_of_block (w := w) (a := ⟨b, off + k * 5 + 1, none⟩) hb).trans c1, (World.cell?_of_block (w := w) (a := ⟨b, off + k * 5 + 2, none⟩) hb).trans c2, (World.cell?_of_block (w := w) (a := ⟨b, off + k * 5 + 3, none⟩) hb).trans c3, (World.cell?_of_block (w := w) (a := ⟨b, off + k * 5 + 4, none⟩) hb).trans c4⟩,
    fun x => Nat.lt_of_lt_of_le (h.lt x) hs, h.max⟩
/-- What a slice that came out reads as. -/
def OutT (w : World) (v : Value) (l : List Tok) : Prop := ∃ q b cap n, v = .slice q n cap ∧ SlT w q b 0 n l ∧ n ≤ cap
theorem OutT.below {w w1 : World} {v : Value} {l : List Tok} (h : OutT w v l) (hB : RowKit.Below w.heap.size w w1) : OutT w1 v l := by
  obtain ⟨q, b, cap, n, h1, h2, h3⟩ := h
  exact ⟨q, b, cap, n, h1, h2.bel hB, h3⟩
theorem OwnT.reads {w : World} {base : Nat} {v : Value} {l : List Tok} (h : OwnT w base v l) (hm : l.length ≤ 1000000) : ∃ q b cap n, v = .slice q n cap ∧ SlT w q b 0 n l ∧ n ≤ cap ∧ (0 < n → base ≤ b) := by
  obtain ⟨_, h⟩ := h
  rcases h with ⟨rfl, h0⟩ | ⟨g, cap, cur, rfl, hg, hb, hn, hc, hs, hx⟩
  · obtain rfl : l = [] := List.length_eq_zero_iff.1 h0
    exact ⟨none, 0, 0, 0, rfl, SlT.nil w _, Nat.le_refl _, fun h => by omega⟩
  · have hcell : ∀ j u, (flT l)[j]? = some u → w.cell? ⟨g, j, none⟩ = some u := fun j u hv => by
      rw [cell_of_row w g j cur _ _ hb]
      have hj : j < l.length * 5 := by
        have := (List.getElem?_eq_some_iff.1 hv).1; rw [flT_len] at this; exact this
      have e := congrArg (fun z => z[j]?) hx
      simp only [List.getElem?_take, hj, if_true] at e
      rw [← Array.getElem?_toList, e, hv]
    refine ⟨_, g, cap, _, rfl, ⟨rfl, fun _ => rfl, fun k hk => ?_, fun _ => ?_, by omega⟩, hn, fun _ => hg⟩
    · obtain ⟨a0, a1, a2, a3, a4⟩ := flT_at l k hk
      simp only [Nat.zero_add]
      exact ⟨hcell _ _ a0, hcell _ _ a1, hcell _ _ a2, hcell _ _ a3, hcell _ _ a4⟩
    · rcases Nat.lt_or_ge g w.heap.size with z | z
      · exact z
      · rw [Array.getElem?_eq_none z] at hb; cases hb
/-- An element lies at the head of a block. -/
def OneT (w : World) (b : Nat) (x : Tok) : Prop := w.cell? ⟨b, 0, none⟩ = some (.int .i64 x.k) ∧ w.cell? ⟨b, 1, none⟩ = some (.int .i64 x.a) ∧ w.cell? ⟨b, 2, none⟩ = some (.string (bs x.t)) ∧ w.cell? ⟨b, 3, none⟩ = some (.int .i64 x.n) ∧ w.cell? ⟨b, 4, none⟩ = some (.int .i64 x.d)
theorem OneT.new (w : World) (x : Tok) (C : TypeId) : OneT (w.alloc (.cells #[.int .i64 x.k, .int .i64 x.a, .string (bs x.t), .int .i64 x.n, .int .i64 x.d] C)) w.heap.size x := ⟨by simp, by simp, by simp, by simp, by simp⟩
theorem OneT.news {w : World} {b : Nat} {x : Tok} (h : OneT w b x) : ∀ (j : Nat) (u : Value), (flT [x])[j]? = some u → w.cell? ((⟨b, 0, none⟩ : Addr).add j) = some u
  | 0, u, hu => by simp [flT, vi] at hu; rw [addr_add, Nat.zero_add, ← hu]; exact h.1
  | 1, u, hu => by simp [flT, vi] at hu; rw [addr_add, Nat.zero_add, ← hu]; exact h.2.1
  | 2, u, hu => by simp [flT, vi] at hu; rw [addr_add, Nat.zero_add, ← hu]; exact h.2.2.1
  | 3, u, hu => by simp [flT, vi] at hu; rw [addr_add, Nat.zero_add, ← hu]; exact h.2.2.2.1
  | 4, u, hu => by simp [flT, vi] at hu; rw [addr_add, Nat.zero_add, ← hu]; exact h.2.2.2.2
  | j + 5, u, hu => by simp [flT] at hu
theorem run_appT (w : World) (base : Nat) (ty : TypeId) (v : Value) (l : List Tok) (hown : OwnT w base v l) (b c : Nat) (x : Tok) (hx : OneT w b x) (h1 : l.length ≤ 1000000) (hbase : base ≤ w.heap.size) :
    ∃ v' w', (Builtin.append_ #[23, 23] ty #[v, .slice (some ⟨b, 0, none⟩) 1 c]).run Tryd.prog w = .ok v' w' ∧ OwnT w' base v' (l ++ [x]) ∧ w.grownBy w' v.ownBlock := by
  obtain ⟨i, hi, hz⟩ := Option.map_eq_some_iff.1 infoT
  simp only [Prod.mk.injEq] at hz
  obtain ⟨v', w', hr, h3, h4, _, _⟩ := run_append_own_at (P := Tryd.prog) w base 23 ty 32 i (.agg #[.int .i64 0, .int .i64 0, .string ⟨#[]⟩, .int .i64 0, .int .i64 0]) 5 48 Tryd.underlying23 hi hz.1 hz.2.1 hz.2.2 rfl (by omega) v l.length (flT l) hown ⟨b, 0, none⟩ 1 c (flT [x]) (by rw [flT_len]; rfl)
    hx.news (fun u hu => flT_one _ u hu) (by unfold maxLen; omega) (by omega) hbase
  refine ⟨v', w', hr, ?_, h4⟩
  unfold OwnT
  rw [List.length_append, flT_app]
  exact h3
/-- In a walk in the text's order. -/
theorem list_appT {w : World} {ops : Array Oper} {rest : List Oper} {o : Oper} {a : Act} {Q : Exit → Act → World → Prop} (hgd : o.guard = none) (s y : Operand)
    (ho : o.op = .call { callee := .builtin .append, args := #[s, y], argTypes := #[23, 23] })
    (base : Nat) (v : Value) (l : List Tok) (hs : a.eval s = v) (hown : OwnT w base v l) (b c : Nat) (x : Tok) (hy : a.eval y = .slice (some ⟨b, 0, none⟩) 1 c) (hx : OneT w b x)
    (h1 : l.length ≤ 1000000) (hbase : base ≤ w.heap.size)
    (h : ∀ v' w', OwnT w' base v' (l ++ [x]) → w.grownBy w' v.ownBlock → wpList Tryd.prog ops Q rest (a.put o.dst v') w') : wpList Tryd.prog ops Q (o :: rest) a w :=
  wpList_plain hgd fun _ hK => by
    obtain ⟨v', w', hr, h3, h4⟩ := run_appT w base o.type v l hown b c x hx h1 hbase
    unfold Oper.wp execOp
    simp only [ho, resolve, invoke, builtin, Sem.run_bind, Sem.run_pure, Result.andThen_ok, List.map_toArray, List.map_cons, List.map_nil, hs, hy, hr]
    exact hK _ _ (h v' w' h3 h4)
/-- What an append leaves: what lay below the slices' blocks lies as it lay. -/
theorem OwnT.grown {w w' : World} {base : Nat} {v : Value} {l : List Tok} (h : OwnT w base v l) (hg : w.grownBy w' v.ownBlock) (hb : base ≤ w.heap.size) : RowKit.Below base w w' :=
  (Below.refl base w).grown hg hb h.block
end Go.Proofs.YtoaeceeookknnaaDoor
