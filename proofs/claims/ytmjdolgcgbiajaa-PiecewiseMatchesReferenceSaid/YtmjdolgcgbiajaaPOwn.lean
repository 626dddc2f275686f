/-
  Slices of a call's own: of pieces, of sections, of integers: what they hold, how they read, and an append of one element onto them.
-/
import Derived.Test.YtmjdolgcgbiajaaPTurn
import Derived.Deep.AppendLies
import Derived.Deep.DrawnRows
import Derived.OwnWalkIn
namespace Go.Proofs.Ytmjdolgcgbiajaa
open Go.RowKit Pw

def vi (x : Int) : Value := .int .i64 x
theorem addr_add (b off i : Nat) : (⟨b, off, none⟩ : Addr).add i = ⟨b, off + i, none⟩ := by unfold Addr.add; split <;> simp_all
theorem SP.Ok.in64 {s : SP} (h : s.Ok) : In64 s.f ∧ In64 s.b ∧ In64 s.r ∧ In64 s.d := by
  obtain ⟨h1, h2, h3, h4, h5, h6⟩ := h
  unfold In64
  omega

/-! ### api.Piece -/
theorem infoP : (Try.prog.info? 51).map (fun i => (i.zero, i.size, i.bytes)) = some (some (.agg #[.int .i64 0, .int .i64 0, .int .i64 0, .int .i64 0, .int .i64 0]), 5, 40) := by kernel_rfl
def flP : List RP → List Value
  | [] => []
  | x :: l => vi (x.f) :: vi (x.vn) :: vi (x.vd) :: vi (x.sn) :: vi (x.sd) :: flP l
theorem flP_len : ∀ l, (flP l).length = l.length * 5
  | [] => rfl
  | x :: l => by simp only [flP, List.length_cons, flP_len l]; omega
theorem flP_app : ∀ l m, flP (l ++ m) = flP l ++ flP m
  | [], _ => rfl
  | x :: l, m => by rw [List.cons_append, flP, flP, flP_app]; rfl
theorem flP_at : ∀ (l : List RP) (k : Nat) (h : k < l.length), (flP l)[k * 5]? = some (vi (l[k].f)) ∧ (flP l)[k * 5 + 1]? = some (vi (l[k].vn)) ∧ (flP l)[k * 5 + 2]? = some (vi (l[k].vd)) ∧ (flP l)[k * 5 + 3]? = some (vi (l[k].sn)) ∧ (flP l)[k * 5 + 4]? = some (vi (l[k].sd))
  | x :: l, 0, _ => ⟨rfl, rfl, rfl, rfl, rfl⟩
  | x :: l, k + 1, h => by
    have := flP_at l k (by simpa using h)
    rw [show (k + 1) * 5 = k * 5 + 1 + 1 + 1 + 1 + 1 by omega]
    simp only [flP, List.getElem_cons_succ, Nat.add_assoc, Nat.reduceAdd] at this ⊢
    exact this
theorem flP_int : ∀ (l : List RP) (u : Value), u ∈ flP l → ∃ x, u = vi x
  | x :: l, u, h => by
    simp only [flP, List.mem_cons] at h
    rcases h with h | h | h | h | h | h
    · exact ⟨_, h⟩
    · exact ⟨_, h⟩
    · exact ⟨_, h⟩
    · exact ⟨_, h⟩
    · exact ⟨_, h⟩
    · exact flP_int l u h
/-- A slice of the call's own that reads as a list. -/
def OwnP (w : World) (base : Nat) (v : Value) (l : List RP) : Prop := w.ownsRow base 51 5 v l.length (flP l)
theorem OwnP.empty (w : World) (base : Nat) : OwnP w base (.slice none 0 0) [] := World.ownsRow_nil _ _ _ _
theorem OwnP.block {w : World} {base : Nat} {v : Value} {l : List RP} (h : OwnP w base v l) : ∀ k, v.ownBlock = some k → base ≤ k := by
  intro k hk
  rcases h.2 with ⟨rfl, _⟩ | ⟨g, cap, cur, rfl, hg, _⟩
  · cases hk
  · simp [Value.ownBlock] at hk; omega
theorem OwnP.alloc {w : World} {base : Nat} {v : Value} {l : List RP} (h : OwnP w base v l) (o : Obj) : OwnP (w.alloc o) base v l := World.ownsRow.alloc h o
theorem OwnP.drewN {w : World} {base : Nat} {v : Value} {l : List RP} (h : OwnP w base v l) (n : Nat) : OwnP (w.drewN n) base v l := h
theorem OwnP.lt {w : World} {base : Nat} {v : Value} {l : List RP} (h : OwnP w base v l) : ∀ k, v.ownBlock = some k → k < w.heap.size := by
  intro k hk
  rcases h.2 with ⟨rfl, _⟩ | ⟨g, cap, cur, rfl, hg, hb, _⟩
  · cases hk
  · obtain rfl : g = k := by simpa [Value.ownBlock] using hk
    rcases Nat.lt_or_ge g w.heap.size with z | z
    · exact z
    · rw [Array.getElem?_eq_none z] at hb; cases hb
/-- It reads on where what lay lies on. -/
theorem OwnP.below {w w' : World} {base : Nat} {v : Value} {l : List RP} (h : OwnP w base v l) (hB : RowKit.Below w.heap.size w w') : OwnP w' base v l := by
  refine ⟨h.1, ?_⟩
  rcases h.2 with ⟨h1, h2⟩ | ⟨g, cap, cur, hv, hg, hb, hr⟩
  · exact .inl ⟨h1, h2⟩
  · refine .inr ⟨g, cap, cur, hv, hg, ?_, hr⟩
    have hlt : g < w.heap.size := by
      rcases Nat.lt_or_ge g w.heap.size with z | z
      · exact z
      · rw [Array.getElem?_eq_none z] at hb; cases hb
    rw [hB.block g hlt]; exact hb
theorem OwnP.cells {w : World} {base : Nat} {v : Value} {l : List RP} (h : OwnP w base v l) : (v = .slice none 0 0 ∧ l = []) ∨ ∃ g cap, v = .slice (some ⟨g, 0, none⟩) l.length cap ∧ base ≤ g ∧ g < w.heap.size ∧
    (∀ j u, (flP l)[j]? = some u → w.cell? ⟨g, j, none⟩ = some u) := by
  obtain ⟨_, h⟩ := h
  rcases h with ⟨rfl, h0⟩ | ⟨g, cap, cur, rfl, hg, hb, hn, hc, hs, hx⟩
  · exact .inl ⟨rfl, List.length_eq_zero_iff.1 h0⟩
  · refine .inr ⟨g, cap, rfl, hg, ?_, fun j v hv => ?_⟩
    · rcases Nat.lt_or_ge g w.heap.size with z | z
      · exact z
      · rw [Array.getElem?_eq_none z] at hb; cases hb
    · rw [cell_of_row w g j cur _ _ hb]
      have hj : j < l.length * 5 := by
        have := (List.getElem?_eq_some_iff.1 hv).1; rw [flP_len] at this; exact this
      have e := congrArg (fun z => z[j]?) hx
      simp only [List.getElem?_take, hj, if_true] at e
      rw [← Array.getElem?_toList, e, hv]
/-- An element lies at the head of a block. -/
def OneP (w : World) (b : Nat) (x : RP) : Prop := w.cell? ⟨b, 0, none⟩ = some (.int .i64 x.f) ∧ w.cell? ⟨b, 1, none⟩ = some (.int .i64 x.vn) ∧ w.cell? ⟨b, 2, none⟩ = some (.int .i64 x.vd) ∧ w.cell? ⟨b, 3, none⟩ = some (.int .i64 x.sn) ∧ w.cell? ⟨b, 4, none⟩ = some (.int .i64 x.sd)
theorem OneP.new (w : World) (x : RP) (C : TypeId) : OneP (w.alloc (.cells #[.int .i64 x.f, .int .i64 x.vn, .int .i64 x.vd, .int .i64 x.sn, .int .i64 x.sd] C)) w.heap.size x := ⟨by simp, by simp, by simp, by simp, by simp⟩
theorem OneP.news {w : World} {b : Nat} {x : RP} (h : OneP w b x) : ∀ (j : Nat) (u : Value), (flP [x])[j]? = some u → w.cell? ((⟨b, 0, none⟩ : Addr).add j) = some u
  | 0, u, hu => by simp [flP, vi] at hu; rw [addr_add, Nat.zero_add, ← hu]; exact h.1
  | 1, u, hu => by simp [flP, vi] at hu; rw [addr_add, Nat.zero_add, ← hu]; exact h.2.1
  | 2, u, hu => by simp [flP, vi] at hu; rw [addr_add, Nat.zero_add, ← hu]; exact h.2.2.1
  | 3, u, hu => by simp [flP, vi] at hu; rw [addr_add, Nat.zero_add, ← hu]; exact h.2.2.2.1
  | 4, u, hu => by simp [flP, vi] at hu; rw [addr_add, Nat.zero_add, ← hu]; exact h.2.2.2.2
  | j + 5, u, hu => by simp [flP] at hu
theorem run_appP (w : World) (base : Nat) (ty : TypeId) (v : Value) (l : List RP) (hown : OwnP w base v l) (b c : Nat) (x : RP) (hx : OneP w b x) (h1 : (l.length + 1) * 40 ≤ 140737488355328) (hbase : base ≤ w.heap.size) :
    ∃ v' w', (Builtin.append_ #[22, 22] ty #[v, .slice (some ⟨b, 0, none⟩) 1 c]).run Try.prog w = .ok v' w' ∧ OwnP w' base v' (l ++ [x]) ∧ w.grownBy w' v.ownBlock := by
  obtain ⟨i, hi, hz⟩ := Option.map_eq_some_iff.1 infoP
  simp only [Prod.mk.injEq] at hz
  obtain ⟨v', w', hr, h3, h4, _, _⟩ := run_append_own_at (P := Try.prog) w base 22 ty 51 i (.agg #[.int .i64 0, .int .i64 0, .int .i64 0, .int .i64 0, .int .i64 0]) 5 40 Try.underlying22 hi hz.1 hz.2.1 hz.2.2 rfl (by omega) v l.length (flP l) hown ⟨b, 0, none⟩ 1 c (flP [x]) (by rw [flP_len]; rfl)
    hx.news (fun u hu => by obtain ⟨y, rfl⟩ := flP_int _ u hu; rfl) (by unfold maxLen; omega) h1 hbase
  refine ⟨v', w', hr, ?_, h4⟩
  unfold OwnP
  rw [List.length_append, flP_app]
  exact h3
/-- In a walk in the text's order. -/
theorem list_appP {w : World} {ops : Array Oper} {rest : List Oper} {o : Oper} {a : Act} {Q : Exit → Act → World → Prop} (hgd : o.guard = none) (s y : Operand)
    (ho : o.op = .call { callee := .builtin .append, args := #[s, y], argTypes := #[22, 22] })
    (base : Nat) (v : Value) (l : List RP) (hs : a.eval s = v) (hown : OwnP w base v l) (b c : Nat) (x : RP) (hy : a.eval y = .slice (some ⟨b, 0, none⟩) 1 c) (hx : OneP w b x)
    (h1 : (l.length + 1) * 40 ≤ 140737488355328) (hbase : base ≤ w.heap.size)
    (h : ∀ v' w', OwnP w' base v' (l ++ [x]) → w.grownBy w' v.ownBlock → wpList Try.prog ops Q rest (a.put o.dst v') w') : wpList Try.prog ops Q (o :: rest) a w :=
  wpList_plain hgd fun _ hK => by
    obtain ⟨v', w', hr, h3, h4⟩ := run_appP w base o.type v l hown b c x hx h1 hbase
    unfold Oper.wp execOp
    simp only [ho, resolve, invoke, builtin, Sem.run_bind, Sem.run_pure, Result.andThen_ok, List.map_toArray, List.map_cons, List.map_nil, hs, hy, hr]
    exact hK _ _ (h v' w' h3 h4)
/-- At a step of a region whose order is open. -/
theorem step_appP {w : World} {ops : Array Oper} {o : Oper} {a : Act} {K : Act → World → Prop} {Q : Exit → Act → World → Prop} {E : Prop} (hgd : o.guard = none) (s y : Operand)
    (ho : o.op = .call { callee := .builtin .append, args := #[s, y], argTypes := #[22, 22] })
    (base : Nat) (v : Value) (l : List RP) (hs : a.eval s = v) (hown : OwnP w base v l) (b c : Nat) (x : RP) (hy : a.eval y = .slice (some ⟨b, 0, none⟩) 1 c) (hx : OneP w b x)
    (h1 : (l.length + 1) * 40 ≤ 140737488355328) (hbase : base ≤ w.heap.size)
    (h : ∀ v' w', OwnP w' base v' (l ++ [x]) → w.grownBy w' v.ownBlock → K (a.put o.dst v') w') :
    if Region.wanted o (yielded ops a.tmps) = true then Oper.wp Try.prog o a w K Q else E := by
  have hw : Region.wanted o (yielded ops a.tmps) = true := by simp [Region.wanted, hgd]
  rw [if_pos hw]
  obtain ⟨v', w', hr, h3, h4⟩ := run_appP w base o.type v l hown b c x hx h1 hbase
  unfold Oper.wp execOp
  simp only [ho, resolve, invoke, builtin, Sem.run_bind, Sem.run_pure, Result.andThen_ok, List.map_toArray, List.map_cons, List.map_nil, hs, hy, hr]
  exact h v' w' h3 h4
/-! ### piecewise.section -/
theorem infoS : (Try.prog.info? 71).map (fun i => (i.zero, i.size, i.bytes)) = some (some (.agg #[.int .i64 0, .int .i64 0, .int .i64 0, .int .i64 0]), 4, 32) := by kernel_rfl
def flS : List SP → List Value
  | [] => []
  | x :: l => vi (x.f) :: vi (x.b) :: vi (x.r) :: vi (x.d) :: flS l
theorem flS_len : ∀ l, (flS l).length = l.length * 4
  | [] => rfl
  | x :: l => by simp only [flS, List.length_cons, flS_len l]; omega
theorem flS_app : ∀ l m, flS (l ++ m) = flS l ++ flS m
  | [], _ => rfl
  | x :: l, m => by rw [List.cons_append, flS, flS, flS_app]; rfl
theorem flS_at : ∀ (l : List SP) (k : Nat) (h : k < l.length), (flS l)[k * 4]? = some (vi (l[k].f)) ∧ (flS l)[k * 4 + 1]? = some (vi (l[k].b)) ∧ (flS l)[k * 4 + 2]? = some (vi (l[k].r)) ∧ (flS l)[k * 4 + 3]? = some (vi (l[k].d))
  | x :: l, 0, _ => ⟨rfl, rfl, rfl, rfl⟩
  | x :: l, k + 1, h => by
    have := flS_at l k (by simpa using h)
    rw [show (k + 1) * 4 = k * 4 + 1 + 1 + 1 + 1 by omega]
    simp only [flS, List.getElem_cons_succ, Nat.add_assoc, Nat.reduceAdd] at this ⊢
    exact this
theorem flS_int : ∀ (l : List SP) (u : Value), u ∈ flS l → ∃ x, u = vi x
  | x :: l, u, h => by
    simp only [flS, List.mem_cons] at h
    rcases h with h | h | h | h | h
    · exact ⟨_, h⟩
    · exact ⟨_, h⟩
    · exact ⟨_, h⟩
    · exact ⟨_, h⟩
    · exact flS_int l u h
/-- A slice of the call's own that reads as a list. -/
def OwnS (w : World) (base : Nat) (v : Value) (l : List SP) : Prop := w.ownsRow base 71 4 v l.length (flS l)
theorem OwnS.empty (w : World) (base : Nat) : OwnS w base (.slice none 0 0) [] := World.ownsRow_nil _ _ _ _
theorem OwnS.block {w : World} {base : Nat} {v : Value} {l : List SP} (h : OwnS w base v l) : ∀ k, v.ownBlock = some k → base ≤ k := by
  intro k hk
  rcases h.2 with ⟨rfl, _⟩ | ⟨g, cap, cur, rfl, hg, _⟩
  · cases hk
  · simp [Value.ownBlock] at hk; omega
theorem OwnS.alloc {w : World} {base : Nat} {v : Value} {l : List SP} (h : OwnS w base v l) (o : Obj) : OwnS (w.alloc o) base v l := World.ownsRow.alloc h o
theorem OwnS.drewN {w : World} {base : Nat} {v : Value} {l : List SP} (h : OwnS w base v l) (n : Nat) : OwnS (w.drewN n) base v l := h
theorem OwnS.lt {w : World} {base : Nat} {v : Value} {l : List SP} (h : OwnS w base v l) : ∀ k, v.ownBlock = some k → k < w.heap.size := by
  intro k hk
  rcases h.2 with ⟨rfl, _⟩ | ⟨g, cap, cur, rfl, hg, hb, _⟩
  · cases hk
  · obtain rfl : g = k := by simpa [Value.ownBlock] using hk
    rcases Nat.lt_or_ge g w.heap.size with z | z
    · exact z
    · rw [Array.getElem?_eq_none z] at hb; cases hb
/-- It reads on where what lay lies on. -/
theorem OwnS.below {w w' : World} {base : Nat} {v : Value} {l : List SP} (h : OwnS w base v l) (hB : RowKit.Below w.heap.size w w') : OwnS w' base v l := by
  refine ⟨h.1, ?_⟩
  rcases h.2 with ⟨h1, h2⟩ | ⟨g, cap, cur, hv, hg, hb, hr⟩
  · exact .inl ⟨h1, h2⟩
  · refine .inr ⟨g, cap, cur, hv, hg, ?_, hr⟩
    have hlt : g < w.heap.size := by
      rcases Nat.lt_or_ge g w.heap.size with z | z
      · exact z
      · rw [Array.getElem?_eq_none z] at hb; cases hb
    rw [hB.block g hlt]; exact hb
theorem OwnS.cells {w : World} {base : Nat} {v : Value} {l : List SP} (h : OwnS w base v l) : (v = .slice none 0 0 ∧ l = []) ∨ ∃ g cap, v = .slice (some ⟨g, 0, none⟩) l.length cap ∧ base ≤ g ∧ g < w.heap.size ∧
    (∀ j u, (flS l)[j]? = some u → w.cell? ⟨g, j, none⟩ = some u) := by
  obtain ⟨_, h⟩ := h
  rcases h with ⟨rfl, h0⟩ | ⟨g, cap, cur, rfl, hg, hb, hn, hc, hs, hx⟩
  · exact .inl ⟨rfl, List.length_eq_zero_iff.1 h0⟩
  · refine .inr ⟨g, cap, rfl, hg, ?_, fun j v hv => ?_⟩
    · rcases Nat.lt_or_ge g w.heap.size with z | z
      · exact z
      · rw [Array.getElem?_eq_none z] at hb; cases hb
    · rw [cell_of_row w g j cur _ _ hb]
      have hj : j < l.length * 4 := by
        have := (List.getElem?_eq_some_iff.1 hv).1; rw [flS_len] at this; exact this
      have e := congrArg (fun z => z[j]?) hx
      simp only [List.getElem?_take, hj, if_true] at e
      rw [← Array.getElem?_toList, e, hv]
/-- An element lies at the head of a block. -/
def OneS (w : World) (b : Nat) (x : SP) : Prop := w.cell? ⟨b, 0, none⟩ = some (.int .i64 x.f) ∧ w.cell? ⟨b, 1, none⟩ = some (.int .i64 x.b) ∧ w.cell? ⟨b, 2, none⟩ = some (.int .i64 x.r) ∧ w.cell? ⟨b, 3, none⟩ = some (.int .i64 x.d)
theorem OneS.new (w : World) (x : SP) (C : TypeId) : OneS (w.alloc (.cells #[.int .i64 x.f, .int .i64 x.b, .int .i64 x.r, .int .i64 x.d] C)) w.heap.size x := ⟨by simp, by simp, by simp, by simp⟩
theorem OneS.news {w : World} {b : Nat} {x : SP} (h : OneS w b x) : ∀ (j : Nat) (u : Value), (flS [x])[j]? = some u → w.cell? ((⟨b, 0, none⟩ : Addr).add j) = some u
  | 0, u, hu => by simp [flS, vi] at hu; rw [addr_add, Nat.zero_add, ← hu]; exact h.1
  | 1, u, hu => by simp [flS, vi] at hu; rw [addr_add, Nat.zero_add, ← hu]; exact h.2.1
  | 2, u, hu => by simp [flS, vi] at hu; rw [addr_add, Nat.zero_add, ← hu]; exact h.2.2.1
  | 3, u, hu => by simp [flS, vi] at hu; rw [addr_add, Nat.zero_add, ← hu]; exact h.2.2.2
  | j + 4, u, hu => by simp [flS] at hu
theorem run_appS (w : World) (base : Nat) (ty : TypeId) (v : Value) (l : List SP) (hown : OwnS w base v l) (b c : Nat) (x : SP) (hx : OneS w b x) (h1 : (l.length + 1) * 32 ≤ 140737488355328) (hbase : base ≤ w.heap.size) :
    ∃ v' w', (Builtin.append_ #[62, 62] ty #[v, .slice (some ⟨b, 0, none⟩) 1 c]).run Try.prog w = .ok v' w' ∧ OwnS w' base v' (l ++ [x]) ∧ w.grownBy w' v.ownBlock := by
  obtain ⟨i, hi, hz⟩ := Option.map_eq_some_iff.1 infoS
  simp only [Prod.mk.injEq] at hz
  obtain ⟨v', w', hr, h3, h4, _, _⟩ := run_append_own_at (P := Try.prog) w base 62 ty 71 i (.agg #[.int .i64 0, .int .i64 0, .int .i64 0, .int .i64 0]) 4 32 Try.underlying62 hi hz.1 hz.2.1 hz.2.2 rfl (by omega) v l.length (flS l) hown ⟨b, 0, none⟩ 1 c (flS [x]) (by rw [flS_len]; rfl)
    hx.news (fun u hu => by obtain ⟨y, rfl⟩ := flS_int _ u hu; rfl) (by unfold maxLen; omega) h1 hbase
  refine ⟨v', w', hr, ?_, h4⟩
  unfold OwnS
  rw [List.length_append, flS_app]
  exact h3
/-- In a walk in the text's order. -/
theorem list_appS {w : World} {ops : Array Oper} {rest : List Oper} {o : Oper} {a : Act} {Q : Exit → Act → World → Prop} (hgd : o.guard = none) (s y : Operand)
    (ho : o.op = .call { callee := .builtin .append, args := #[s, y], argTypes := #[62, 62] })
    (base : Nat) (v : Value) (l : List SP) (hs : a.eval s = v) (hown : OwnS w base v l) (b c : Nat) (x : SP) (hy : a.eval y = .slice (some ⟨b, 0, none⟩) 1 c) (hx : OneS w b x)
    (h1 : (l.length + 1) * 32 ≤ 140737488355328) (hbase : base ≤ w.heap.size)
    (h : ∀ v' w', OwnS w' base v' (l ++ [x]) → w.grownBy w' v.ownBlock → wpList Try.prog ops Q rest (a.put o.dst v') w') : wpList Try.prog ops Q (o :: rest) a w :=
  wpList_plain hgd fun _ hK => by
    obtain ⟨v', w', hr, h3, h4⟩ := run_appS w base o.type v l hown b c x hx h1 hbase
    unfold Oper.wp execOp
    simp only [ho, resolve, invoke, builtin, Sem.run_bind, Sem.run_pure, Result.andThen_ok, List.map_toArray, List.map_cons, List.map_nil, hs, hy, hr]
    exact hK _ _ (h v' w' h3 h4)
/-- At a step of a region whose order is open. -/
theorem step_appS {w : World} {ops : Array Oper} {o : Oper} {a : Act} {K : Act → World → Prop} {Q : Exit → Act → World → Prop} {E : Prop} (hgd : o.guard = none) (s y : Operand)
    (ho : o.op = .call { callee := .builtin .append, args := #[s, y], argTypes := #[62, 62] })
    (base : Nat) (v : Value) (l : List SP) (hs : a.eval s = v) (hown : OwnS w base v l) (b c : Nat) (x : SP) (hy : a.eval y = .slice (some ⟨b, 0, none⟩) 1 c) (hx : OneS w b x)
    (h1 : (l.length + 1) * 32 ≤ 140737488355328) (hbase : base ≤ w.heap.size)
    (h : ∀ v' w', OwnS w' base v' (l ++ [x]) → w.grownBy w' v.ownBlock → K (a.put o.dst v') w') :
    if Region.wanted o (yielded ops a.tmps) = true then Oper.wp Try.prog o a w K Q else E := by
  have hw : Region.wanted o (yielded ops a.tmps) = true := by simp [Region.wanted, hgd]
  rw [if_pos hw]
  obtain ⟨v', w', hr, h3, h4⟩ := run_appS w base o.type v l hown b c x hx h1 hbase
  unfold Oper.wp execOp
  simp only [ho, resolve, invoke, builtin, Sem.run_bind, Sem.run_pure, Result.andThen_ok, List.map_toArray, List.map_cons, List.map_nil, hs, hy, hr]
  exact h v' w' h3 h4
/-- In a fenced walk in the text's order. -/
theorem listIn_appS {F : Fence} {n : Nat} {w : World} {ops : Array Oper} {rest : List Oper} {o : Oper} {a : Act} {Q : Exit → Act → World → Prop} (hgd : o.guard = none) (s y : Operand)
    (ho : o.op = .call { callee := .builtin .append, args := #[s, y], argTypes := #[62, 62] })
    (base : Nat) (v : Value) (l : List SP) (hs : a.eval s = v) (hown : OwnS w base v l) (b c : Nat) (x : SP) (hy : a.eval y = .slice (some ⟨b, 0, none⟩) 1 c) (hx : OneS w b x)
    (h1 : (l.length + 1) * 32 ≤ 140737488355328) (hbase : base ≤ w.heap.size)
    (h : ∀ v' w', OwnS w' base v' (l ++ [x]) → w.grownBy w' v.ownBlock → wpListIn F n Try.prog ops Q rest (a.put o.dst v') w') : wpListIn F n Try.prog ops Q (o :: rest) a w := by
  refine wpListIn_plain hgd fun K hK' => ?_
  obtain ⟨v', w', hr, h3, h4⟩ := run_appS w base o.type v l hown b c x hx h1 hbase
  unfold Oper.wpIn
  refine ⟨?_, ?_⟩
  · simp [Oper.about, ho, resolve, Target.leads, Sem.run_pure]
  · rw [Oper.semAt_plain F _ _ (by rw [ho]; intro c hc'; cases hc')]
    simp [execOp, ho, resolve, invoke, builtin, hs, hy, hr, Result.andThen]
    exact hK' _ _ (h v' w' h3 h4)
/-! ### int -/
theorem infoI : (Try.prog.info? 3).map (fun i => (i.zero, i.size, i.bytes)) = some (some (.int .i64 0), 1, 8) := by kernel_rfl
def flI : List Int → List Value
  | [] => []
  | x :: l => vi (x) :: flI l
theorem flI_len : ∀ l, (flI l).length = l.length * 1
  | [] => rfl
  | x :: l => by simp only [flI, List.length_cons, flI_len l]; omega
theorem flI_app : ∀ l m, flI (l ++ m) = flI l ++ flI m
  | [], _ => rfl
  | x :: l, m => by rw [List.cons_append, flI, flI, flI_app]; rfl
theorem flI_at : ∀ (l : List Int) (k : Nat) (h : k < l.length), (flI l)[k]? = some (vi (l[k]))
  | x :: l, 0, _ => rfl
  | x :: l, k + 1, h => by
    have := flI_at l k (by simpa using h)
    simp only [flI, List.getElem_cons_succ] at this ⊢
    exact this
theorem flI_int : ∀ (l : List Int) (u : Value), u ∈ flI l → ∃ x, u = vi x
  | x :: l, u, h => by
    simp only [flI, List.mem_cons] at h
    rcases h with h | h
    · exact ⟨_, h⟩
    · exact flI_int l u h
/-- A slice of the call's own that reads as a list. -/
def OwnI (w : World) (base : Nat) (v : Value) (l : List Int) : Prop := w.ownsRow base 3 1 v l.length (flI l)
theorem OwnI.empty (w : World) (base : Nat) : OwnI w base (.slice none 0 0) [] := World.ownsRow_nil _ _ _ _
theorem OwnI.block {w : World} {base : Nat} {v : Value} {l : List Int} (h : OwnI w base v l) : ∀ k, v.ownBlock = some k → base ≤ k := by
  intro k hk
  rcases h.2 with ⟨rfl, _⟩ | ⟨g, cap, cur, rfl, hg, _⟩
  · cases hk
  · simp [Value.ownBlock] at hk; omega
theorem OwnI.alloc {w : World} {base : Nat} {v : Value} {l : List Int} (h : OwnI w base v l) (o : Obj) : OwnI (w.alloc o) base v l := World.ownsRow.alloc h o
theorem OwnI.drewN {w : World} {base : Nat} {v : Value} {l : List Int} (h : OwnI w base v l) (n : Nat) : OwnI (w.drewN n) base v l := h
theorem OwnI.lt {w : World} {base : Nat} {v : Value} {l : List Int} (h : OwnI w base v l) : ∀ k, v.ownBlock = some k → k < w.heap.size := by
  intro k hk
  rcases h.2 with ⟨rfl, _⟩ | ⟨g, cap, cur, rfl, hg, hb, _⟩
  · cases hk
  · obtain rfl : g = k := by simpa [Value.ownBlock] using hk
    rcases Nat.lt_or_ge g w.heap.size with z | z
    · exact z
    · rw [Array.getElem?_eq_none z] at hb; cases hb
/-- It reads on where what lay lies on. -/
theorem OwnI.below {w w' : World} {base : Nat} {v : Value} {l : List Int} (h : OwnI w base v l) (hB : RowKit.Below w.heap.size w w') : OwnI w' base v l := by
  refine ⟨h.1, ?_⟩
  rcases h.2 with ⟨h1, h2⟩ | ⟨g, cap, cur, hv, hg, hb, hr⟩
  · exact .inl ⟨h1, h2⟩
  · refine .inr ⟨g, cap, cur, hv, hg, ?_, hr⟩
    have hlt : g < w.heap.size := by
      rcases Nat.lt_or_ge g w.heap.size with z | z
      · exact z
      · rw [Array.getElem?_eq_none z] at hb; cases hb
    rw [hB.block g hlt]; exact hb
theorem OwnI.cells {w : World} {base : Nat} {v : Value} {l : List Int} (h : OwnI w base v l) : (v = .slice none 0 0 ∧ l = []) ∨ ∃ g cap, v = .slice (some ⟨g, 0, none⟩) l.length cap ∧ base ≤ g ∧ g < w.heap.size ∧
    (∀ j u, (flI l)[j]? = some u → w.cell? ⟨g, j, none⟩ = some u) := by
  obtain ⟨_, h⟩ := h
  rcases h with ⟨rfl, h0⟩ | ⟨g, cap, cur, rfl, hg, hb, hn, hc, hs, hx⟩
  · exact .inl ⟨rfl, List.length_eq_zero_iff.1 h0⟩
  · refine .inr ⟨g, cap, rfl, hg, ?_, fun j v hv => ?_⟩
    · rcases Nat.lt_or_ge g w.heap.size with z | z
      · exact z
      · rw [Array.getElem?_eq_none z] at hb; cases hb
    · rw [cell_of_row w g j cur _ _ hb]
      have hj : j < l.length * 1 := by
        have := (List.getElem?_eq_some_iff.1 hv).1; rw [flI_len] at this; exact this
      have e := congrArg (fun z => z[j]?) hx
      simp only [List.getElem?_take, hj, if_true] at e
      rw [← Array.getElem?_toList, e, hv]
/-- An element lies at the head of a block. -/
def OneI (w : World) (b : Nat) (x : Int) : Prop := w.cell? ⟨b, 0, none⟩ = some (.int .i64 x)
theorem OneI.new (w : World) (x : Int) (C : TypeId) : OneI (w.alloc (.cells #[.int .i64 x] C)) w.heap.size x := by unfold OneI; simp
theorem OneI.news {w : World} {b : Nat} {x : Int} (h : OneI w b x) : ∀ (j : Nat) (u : Value), (flI [x])[j]? = some u → w.cell? ((⟨b, 0, none⟩ : Addr).add j) = some u
  | 0, u, hu => by simp [flI, vi] at hu; rw [addr_add, Nat.zero_add, ← hu]; exact h
  | j + 1, u, hu => by simp [flI] at hu
theorem run_appI (w : World) (base : Nat) (ty : TypeId) (v : Value) (l : List Int) (hown : OwnI w base v l) (b c : Nat) (x : Int) (hx : OneI w b x) (h1 : (l.length + 1) * 8 ≤ 140737488355328) (hbase : base ≤ w.heap.size) :
    ∃ v' w', (Builtin.append_ #[73, 73] ty #[v, .slice (some ⟨b, 0, none⟩) 1 c]).run Try.prog w = .ok v' w' ∧ OwnI w' base v' (l ++ [x]) ∧ w.grownBy w' v.ownBlock := by
  obtain ⟨i, hi, hz⟩ := Option.map_eq_some_iff.1 infoI
  simp only [Prod.mk.injEq] at hz
  obtain ⟨v', w', hr, h3, h4, _, _⟩ := run_append_own_at (P := Try.prog) w base 73 ty 3 i (.int .i64 0) 1 8 Try.underlying73 hi hz.1 hz.2.1 hz.2.2 rfl (by omega) v l.length (flI l) hown ⟨b, 0, none⟩ 1 c (flI [x]) (by rw [flI_len]; rfl)
    hx.news (fun u hu => by obtain ⟨y, rfl⟩ := flI_int _ u hu; rfl) (by unfold maxLen; omega) h1 hbase
  refine ⟨v', w', hr, ?_, h4⟩
  unfold OwnI
  rw [List.length_append, flI_app]
  exact h3
/-- In a walk in the text's order. -/
theorem list_appI {w : World} {ops : Array Oper} {rest : List Oper} {o : Oper} {a : Act} {Q : Exit → Act → World → Prop} (hgd : o.guard = none) (s y : Operand)
    (ho : o.op = .call { callee := .builtin .append, args := #[s, y], argTypes := #[73, 73] })
    (base : Nat) (v : Value) (l : List Int) (hs : a.eval s = v) (hown : OwnI w base v l) (b c : Nat) (x : Int) (hy : a.eval y = .slice (some ⟨b, 0, none⟩) 1 c) (hx : OneI w b x)
    (h1 : (l.length + 1) * 8 ≤ 140737488355328) (hbase : base ≤ w.heap.size)
    (h : ∀ v' w', OwnI w' base v' (l ++ [x]) → w.grownBy w' v.ownBlock → wpList Try.prog ops Q rest (a.put o.dst v') w') : wpList Try.prog ops Q (o :: rest) a w :=
  wpList_plain hgd fun _ hK => by
    obtain ⟨v', w', hr, h3, h4⟩ := run_appI w base o.type v l hown b c x hx h1 hbase
    unfold Oper.wp execOp
    simp only [ho, resolve, invoke, builtin, Sem.run_bind, Sem.run_pure, Result.andThen_ok, List.map_toArray, List.map_cons, List.map_nil, hs, hy, hr]
    exact hK _ _ (h v' w' h3 h4)
/-- At a step of a region whose order is open. -/
theorem step_appI {w : World} {ops : Array Oper} {o : Oper} {a : Act} {K : Act → World → Prop} {Q : Exit → Act → World → Prop} {E : Prop} (hgd : o.guard = none) (s y : Operand)
    (ho : o.op = .call { callee := .builtin .append, args := #[s, y], argTypes := #[73, 73] })
    (base : Nat) (v : Value) (l : List Int) (hs : a.eval s = v) (hown : OwnI w base v l) (b c : Nat) (x : Int) (hy : a.eval y = .slice (some ⟨b, 0, none⟩) 1 c) (hx : OneI w b x)
    (h1 : (l.length + 1) * 8 ≤ 140737488355328) (hbase : base ≤ w.heap.size)
    (h : ∀ v' w', OwnI w' base v' (l ++ [x]) → w.grownBy w' v.ownBlock → K (a.put o.dst v') w') :
    if Region.wanted o (yielded ops a.tmps) = true then Oper.wp Try.prog o a w K Q else E := by
  have hw : Region.wanted o (yielded ops a.tmps) = true := by simp [Region.wanted, hgd]
  rw [if_pos hw]
  obtain ⟨v', w', hr, h3, h4⟩ := run_appI w base o.type v l hown b c x hx h1 hbase
  unfold Oper.wp execOp
  simp only [ho, resolve, invoke, builtin, Sem.run_bind, Sem.run_pure, Result.andThen_ok, List.map_toArray, List.map_cons, List.map_nil, hs, hy, hr]
  exact h v' w' h3 h4

/-- A slice of the call's own reads as a slice. -/
theorem OwnP.reads {w : World} {base : Nat} {v : Value} {l : List RP} (h : OwnP w base v l) (hm : l.length ≤ 9223372036854775807) (hI : ∀ s, s ∈ l → s.In) : ∃ p b cap, v = .slice p l.length cap ∧ SlP w p b 0 l.length l := by
  rcases h.cells with ⟨rfl, rfl⟩ | ⟨g, cap, rfl, hg, hlt, cl⟩
  · exact ⟨_, 0, 0, rfl, SlP.nil w _⟩
  · refine ⟨_, g, cap, rfl, rfl, fun _ => rfl, fun k hk => ?_, fun _ => hlt, hm, hI⟩
    obtain ⟨a0, a1, a2, a3, a4⟩ := flP_at l k hk
    rw [Nat.zero_add]
    exact ⟨cl _ _ a0, cl _ _ a1, cl _ _ a2, cl _ _ a3, cl _ _ a4⟩
end Go.Proofs.Ytmjdolgcgbiajaa
