/-
  Slices of a call's own: how they read, and an append onto them.
-/
import Derived.Test.YtidhhndclkilnaaDoorDSum
import Derived.Laws.OwnMore
import Derived.Deep.AppendLies
import Derived.Lib.AppendStr
namespace Go.Proofs.YtidhhndclkilnaaDoor
open Go.RowKit Dg

/-- What is known of a type of slices, and of its elements. -/
structure ElT (S E : TypeId) (z : Value) (n : Nat) : Prop where
  hS : Tryd.prog.underlying S = some (.slice E)
  hI : (Tryd.prog.info? E).map (fun i => (i.zero, i.size, i.bytes)) = some (some z, 1, n)
  hz : z.cells.size = 1
  h8 : n ≤ 8
theorem info_u8 : (Tryd.prog.info? 5).map (fun i => (i.zero, i.size, i.bytes)) = some (some (.int .u8 0), 1, 1) := by kernel_rfl
theorem el8 : ElT 61 5 (.int .u8 0) 1 := ⟨Tryd.underlying61, info_u8, rfl, by decide⟩
theorem info_int : (Tryd.prog.info? 3).map (fun i => (i.zero, i.size, i.bytes)) = some (some (.int .i64 0), 1, 8) := by kernel_rfl
theorem eli : ElT 24 3 (.int .i64 0) 8 := ⟨Tryd.underlying24, info_int, rfl, by decide⟩

/-- A slice of the call's own that reads as a list. -/
def Own {α : Type} (E : TypeId) (f : α → Value) (w : World) (base : Nat) (v : Value) (l : List α) : Prop := w.ownsRow base E 1 v l.length (l.map f)
section
variable {α : Type} {E : TypeId} {f : α → Value} {w : World} {base : Nat} {v : Value} {l : List α}
theorem Own.empty : Own E f w base (.slice none 0 0) ([] : List α) := World.ownsRow_nil _ _ _ _
theorem Own.block (h : Own E f w base v l) : ∀ k, v.ownBlock = some k → base ≤ k := by
  intro k hk
  rcases h.2 with ⟨rfl, _⟩ | ⟨g, cap, cur, rfl, hg, _⟩
  · cases hk
  · simp [Value.ownBlock] at hk; omega
theorem Own.alloc (h : Own E f w base v l) (o : Obj) : Own E f (w.alloc o) base v l := World.ownsRow.alloc h o
theorem Own.drew (h : Own E f w base v l) : Own E f w.drew base v l := h
theorem Own.new (w : World) (l : List α) (E : TypeId) (f : α → Value) (hl : l.length ≤ 1000000) : Own E f (w.alloc (.cells (l.map f).toArray E)) w.heap.size (.slice (some ⟨w.heap.size, 0, none⟩) l.length l.length) l :=
  ⟨by simp, .inr ⟨w.heap.size, l.length, (l.map f).toArray, rfl, Nat.le_refl _, heap_alloc_new w _, Nat.le_refl _, by unfold maxLen; omega, by simp, by simp; exact List.take_of_length_le (by simp)⟩⟩
/-- Behind a world in which what lay lies as it lay. -/
theorem Own.below {w1 : World} (h : Own E f w base v l) (hB : RowKit.Below w.heap.size w w1) : Own E f w1 base v l := by
  refine ⟨h.1, ?_⟩
  rcases h.2 with ⟨rfl, h0⟩ | ⟨g, cap, cur, rfl, hg, hb, hn⟩
  · exact .inl ⟨rfl, h0⟩
  · refine .inr ⟨g, cap, cur, rfl, hg, ?_, hn⟩
    rw [hB.block g (by
      rcases Nat.lt_or_ge g w.heap.size with z | z
      · exact z
      · rw [Array.getElem?_eq_none z] at hb; cases hb)]
    exact hb
/-- What a slice that came out reads as. -/
def OutS {α : Type} (f : α → Value) (w : World) (v : Value) (l : List α) : Prop := ∃ q b cap, v = .slice q l.length cap ∧ SlF f w q b 0 l.length l ∧ l.length ≤ cap
theorem Own.reads (h : Own E f w base v l) (hm : l.length ≤ 1000000) : OutS f w v l := by
  obtain ⟨_, h⟩ := h
  rcases h with ⟨rfl, h0⟩ | ⟨g, cap, cur, rfl, hg, hb, hn, hc, hs, hx⟩
  · obtain rfl : l = [] := List.length_eq_zero_iff.1 h0
    exact ⟨none, 0, 0, rfl, SlF.nil w _, Nat.le_refl _⟩
  · refine ⟨_, g, cap, rfl, ⟨rfl, fun _ => rfl, fun k hk => ?_, fun _ => ?_, by omega⟩, hn⟩
    · rw [Nat.zero_add, cell_of_row w g k cur _ _ hb]
      have e := congrArg (fun z => z[k]?) hx
      simp only [List.getElem?_take, Nat.mul_one, List.getElem?_map, hk, if_true] at e
      rw [← Array.getElem?_toList, e, List.getElem?_eq_getElem hk]; rfl
    · rcases Nat.lt_or_ge g w.heap.size with z | z
      · exact z
      · rw [Array.getElem?_eq_none z] at hb; cases hb
end

section
variable {α : Type} {S E : TypeId} {z : Value} {n : Nat} {f : α → Value}
theorem run_app (T : ElT S E z n) (h1c : ∀ x, (f x).oneCell' = true) (w : World) (base : Nat) (ty : TypeId) (v : Value) (l : List α) (hown : Own E f w base v l) (ad : Addr) (m c : Nat) (k : List α) (hl : k.length = m) (hnews : ∀ (j : Nat) (h : j < k.length), w.cell? (ad.add j) = some (f k[j]))
    (h1 : l.length + m ≤ 1000000) (hbase : base ≤ w.heap.size) :
    ∃ v' w', (Builtin.append_ #[S, S] ty #[v, .slice (some ad) m c]).run Tryd.prog w = .ok v' w' ∧ Own E f w' base v' (l ++ k) ∧ w.grownBy w' v.ownBlock ∧ (v'.ownBlock = v.ownBlock ∨ v'.ownBlock = some w.heap.size) := by
  obtain ⟨i, hi, hz⟩ := Option.map_eq_some_iff.1 T.hI
  simp only [Prod.mk.injEq] at hz
  have h8 := T.h8
  obtain ⟨v', w', hr, h3, h4, _, h5⟩ := run_append_own_at (P := Tryd.prog) w base S ty E i z 1 n T.hS hi hz.1 hz.2.1 hz.2.2 T.hz (by omega) v l.length (l.map f) hown ad m c (k.map f) (by simp [hl])
    (fun j u hu => by
      simp only [List.getElem?_map, Option.map_eq_some_iff] at hu
      obtain ⟨x, hx, rfl⟩ := hu
      obtain ⟨hj, e⟩ := List.getElem?_eq_some_iff.1 hx
      rw [hnews j hj, e])
    (fun u hu => by obtain ⟨x, _, rfl⟩ := List.mem_map.1 hu; exact h1c x) (by unfold maxLen; omega)
    (Nat.le_trans (Nat.mul_le_mul_left _ h8) (by omega)) hbase
  refine ⟨v', w', hr, ?_, h4, h5⟩
  unfold Own
  rw [List.length_append, List.map_append, hl]
  exact h3
/-- At a step of a region whose order is open. -/
theorem step_app (T : ElT S E z n) (h1c : ∀ x, (f x).oneCell' = true) {w : World} {ops : Array Oper} {o : Oper} {a : Act} {K : Act → World → Prop} {Q : Exit → Act → World → Prop} {F : Prop} (hgd : o.guard = none) (s x : Operand)
    (ho : o.op = .call { callee := .builtin .append, args := #[s, x], argTypes := #[S, S] })
    (base : Nat) (v : Value) (l : List α) (hs : a.eval s = v) (hown : Own E f w base v l) (ad : Addr) (m c : Nat) (k : List α) (hx : a.eval x = .slice (some ad) m c) (hl : k.length = m) (hnews : ∀ (j : Nat) (h : j < k.length), w.cell? (ad.add j) = some (f k[j]))
    (h1 : l.length + m ≤ 1000000) (hbase : base ≤ w.heap.size)
    (h : ∀ v' w', Own E f w' base v' (l ++ k) → w.grownBy w' v.ownBlock → (v'.ownBlock = v.ownBlock ∨ v'.ownBlock = some w.heap.size) → K (a.put o.dst v') w') :
    if Region.wanted o (yielded ops a.tmps) = true then Oper.wp Tryd.prog o a w K Q else F := by
  have hw : Region.wanted o (yielded ops a.tmps) = true := by simp [Region.wanted, hgd]
  rw [if_pos hw]
  obtain ⟨v', w', hr, h3, h4, h5⟩ := run_app T h1c w base o.type v l hown ad m c k hl hnews h1 hbase
  unfold Oper.wp execOp
  simp only [ho, resolve, invoke, builtin, Sem.run_bind, Sem.run_pure, Result.andThen_ok, List.map_toArray, List.map_cons, List.map_nil, hs, hx, hr]
  exact h v' w' h3 h4 h5
/-- At a step of a region in the order of the text. -/
theorem list_app (T : ElT S E z n) (h1c : ∀ x, (f x).oneCell' = true) {w : World} {ops : Array Oper} {rest : List Oper} {o : Oper} {a : Act} {Q : Exit → Act → World → Prop} (hgd : o.guard = none) (s x : Operand)
    (ho : o.op = .call { callee := .builtin .append, args := #[s, x], argTypes := #[S, S] })
    (base : Nat) (v : Value) (l : List α) (hs : a.eval s = v) (hown : Own E f w base v l) (ad : Addr) (m c : Nat) (k : List α) (hx : a.eval x = .slice (some ad) m c) (hl : k.length = m) (hnews : ∀ (j : Nat) (h : j < k.length), w.cell? (ad.add j) = some (f k[j]))
    (h1 : l.length + m ≤ 1000000) (hbase : base ≤ w.heap.size)
    (h : ∀ v' w', Own E f w' base v' (l ++ k) → w.grownBy w' v.ownBlock → (v'.ownBlock = v.ownBlock ∨ v'.ownBlock = some w.heap.size) → wpList Tryd.prog ops Q rest (a.put o.dst v') w') : wpList Tryd.prog ops Q (o :: rest) a w :=
  wpList_plain hgd fun _ hK => by
    obtain ⟨v', w', hr, h3, h4, h5⟩ := run_app T h1c w base o.type v l hown ad m c k hl hnews h1 hbase
    unfold Oper.wp execOp
    simp only [ho, resolve, invoke, builtin, Sem.run_bind, Sem.run_pure, Result.andThen_ok, List.map_toArray, List.map_cons, List.map_nil, hs, hx, hr]
    exact hK _ _ (h v' w' h3 h4 h5)
end
/-- A string's bytes. -/
def nb (l : List UInt8) : List Nat := l.map UInt8.toNat
/-- A string of these bytes. -/
def bs (l : List UInt8) : ByteArray := ⟨l.toArray⟩
theorem strCells_bs (l : List UInt8) : Lib.strCells (bs l) = (nb l).map u8v := by
  unfold Lib.strCells nb bs u8v
  simp
theorem list_app_str {w : World} {ops : Array Oper} {rest : List Oper} {o : Oper} {a : Act} {Q : Exit → Act → World → Prop} (hgd : o.guard = none) (s x : Operand)
    (ho : o.op = .call { callee := .builtin .append, args := #[s, x], argTypes := #[61, 9] })
    (base : Nat) (v : Value) (l : List Nat) (hs : a.eval s = v) (hown : Own 5 u8v w base v l) (k : List UInt8) (hx : a.eval x = .string (bs k))
    (h1 : l.length + k.length ≤ 1000000) (hbase : base ≤ w.heap.size)
    (h : ∀ v' w', Own 5 u8v w' base v' (l ++ nb k) → w.grownBy w' v.ownBlock → wpList Tryd.prog ops Q rest (a.put o.dst v') w') : wpList Tryd.prog ops Q (o :: rest) a w :=
  wpList_plain hgd fun _ hK => by
    obtain ⟨i, hi, hz⟩ := Option.map_eq_some_iff.1 info_u8
    simp only [Prod.mk.injEq] at hz
    have hk : (bs k).size = k.length := by simp [bs, ByteArray.size]
    obtain ⟨v', w', hr, h3, h4, _⟩ := Lib.run_append_own_string (P := Tryd.prog) w base 61 9 o.type 5 i Tryd.underlying61 Tryd.underlying9 hi hz.1 hz.2.1 hz.2.2 v l.length (l.map u8v) hown (bs k) (by unfold maxLen; omega) (by omega) hbase
    unfold Oper.wp execOp
    simp only [ho, resolve, invoke, builtin, Sem.run_bind, Sem.run_pure, Result.andThen_ok, List.map_toArray, List.map_cons, List.map_nil, hs, hx, hr]
    refine hK _ _ (h v' w' ?_ h4)
    unfold Own
    rw [List.length_append, List.map_append, ← strCells_bs, nb, List.length_map, ← hk]
    exact h3
theorem SlF.grown {α : Type} {f : α → Value} {w w1 : World} {p : Option Addr} {b off len : Nat} {l : List α} {row : Option Nat} (h : SlF f w p b off len l) (hg : w.grownBy w1 row) (hr : ∀ k, row = some k → k ≠ b) : SlF f w1 p b off len l :=
  ⟨h.ln, h.ptr, fun k hk => by
    have e := hg.block b (h.lt (by have := h.ln; omega)) (fun e => hr b e.symm rfl)
    rw [World.cell?_of_block (w := w) (a := ⟨b, off + k, none⟩) e, h.cells k hk], fun x => Nat.lt_of_lt_of_le (h.lt x) hg.size, h.max⟩
theorem SlF.alloc {α : Type} {f : α → Value} {w : World} {p : Option Addr} {b off len : Nat} {l : List α} (h : SlF f w p b off len l) (o : Obj) : SlF f (w.alloc o) p b off len l := h.bel ((Below.refl _ _).alloc (Nat.le_refl _) _)
theorem Own.blt {α : Type} {E : TypeId} {f : α → Value} {w : World} {base : Nat} {v : Value} {l : List α} (h : Own E f w base v l) : ∀ k, v.ownBlock = some k → k < w.heap.size := by
  intro k hk
  rcases h.2 with ⟨rfl, _⟩ | ⟨g, cap, cur, rfl, hg, hb, _⟩
  · cases hk
  · simp [Value.ownBlock] at hk
    subst hk
    rcases Nat.lt_or_ge g w.heap.size with z | z
    · exact z
    · rw [Array.getElem?_eq_none z] at hb; cases hb
theorem u8_one (x : Nat) : (u8v x).oneCell' = true := rfl
theorem u64_one (x : Nat) : (u64v x).oneCell' = true := rfl
theorem i64_one (x : Int) : (i64v x).oneCell' = true := rfl
/-- One element that was just made. -/
theorem news1 {α : Type} {f : α → Value} (w : World) (x : α) (E : TypeId) : ∀ (j : Nat) (h : j < [x].length), (w.alloc (.cells #[f x] E)).cell? ((⟨w.heap.size, 0, none⟩ : Addr).add j) = some (f [x][j])
  | 0, _ => by rw [addr_add]; simp
  | j + 1, h => by simp at h
end Go.Proofs.YtidhhndclkilnaaDoor
