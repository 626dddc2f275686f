/-
  An append onto a slice of a call's own, of a slice that may be nil or empty.
-/
import Derived.Test.YtidhhndclkilnaaDoorDInts
import Derived.Deep.Upon
namespace Go.Proofs.YtidhhndclkilnaaDoor
open Go.RowKit Dg

section
variable {α : Type} {S E : TypeId} {z : Value} {n : Nat} {f : α → Value}
theorem run_app_o (T : ElT S E z n) (h1c : ∀ x, (f x).oneCell' = true) (w : World) (base : Nat) (ty : TypeId) (v : Value) (l : List α) (hown : Own E f w base v l) (A : Option Addr) (ad : Addr) (m c : Nat) (k : List α) (hA : 0 < m → A = some ad) (hl : k.length = m) (hnews : ∀ (j : Nat) (h : j < k.length), w.cell? (ad.add j) = some (f k[j]))
    (h1 : l.length + m ≤ 1000000) (hbase : base ≤ w.heap.size) :
    ∃ v' w', (Builtin.append_ #[S, S] ty #[v, .slice A m c]).run Tryd.prog w = .ok v' w' ∧ Own E f w' base v' (l ++ k) ∧ w.grownBy w' v.ownBlock := by
  by_cases hm : 0 < m
  · rw [hA hm]
    obtain ⟨v', w', h2, h3, h4, _⟩ := run_app T h1c w base ty v l hown ad m c k hl hnews h1 hbase
    exact ⟨v', w', h2, h3, h4⟩
  · obtain rfl : m = 0 := by omega
    obtain rfl : k = [] := List.eq_nil_of_length_eq_zero hl
    obtain ⟨i, hi, hz⟩ := Option.map_eq_some_iff.1 T.hI
    simp only [Prod.mk.injEq] at hz
    have hsrc : Src Tryd.prog i.size S (.slice A 0 c) 0 [] w := by
      refine ⟨.inl ⟨E, T.hS⟩, fun w' => ?_, ?_, ?_, by simp, fun u hu => by cases hu⟩
      · simp [Builtin.lenOf]
      · cases A <;> simp [Builtin.firstCells, loadCells, loadCellsFrom]
      · cases A <;> simp [Builtin.firstCells, loadCells, loadCellsFrom]
    rw [List.append_nil]
    have hg : w.grownBy w v.ownBlock := ⟨rfl, rfl, rfl, Nat.le_refl _, fun _ _ _ => rfl⟩
    rcases hown.2 with ⟨rfl, h0⟩ | ⟨g, cap, cur, rfl, h2, h3, h4, h5⟩
    · exact ⟨_, w, run_append_nothing w S S ty E i T.hS hi none 0 0 (Nat.le_refl _) _ hsrc, hown, hg⟩
    · exact ⟨_, w, run_append_nothing w S S ty E i T.hS hi (some ⟨g, 0, none⟩) l.length cap h4 _ hsrc, hown, hg⟩
theorem list_app_o (T : ElT S E z n) (h1c : ∀ x, (f x).oneCell' = true) {w : World} {ops : Array Oper} {rest : List Oper} {o : Oper} {a : Act} {Q : Exit → Act → World → Prop} (hgd : o.guard = none) (s x : Operand)
    (ho : o.op = .call { callee := .builtin .append, args := #[s, x], argTypes := #[S, S] })
    (base : Nat) (v : Value) (l : List α) (hs : a.eval s = v) (hown : Own E f w base v l) (A : Option Addr) (b off m c : Nat) (k : List α) (hx : a.eval x = .slice A m c) (hk : SlF f w A b off m k)
    (h1 : l.length + m ≤ 1000000) (hbase : base ≤ w.heap.size)
    (h : ∀ v' w', Own E f w' base v' (l ++ k) → w.grownBy w' v.ownBlock → wpList Tryd.prog ops Q rest (a.put o.dst v') w') : wpList Tryd.prog ops Q (o :: rest) a w :=
  wpList_plain hgd fun _ hK => by
    obtain ⟨v', w', hr, h3, h4⟩ := run_app_o T h1c w base o.type v l hown A ⟨b, off, none⟩ m c k hk.ptr hk.ln (fun j hj => by rw [addr_add]; exact hk.cells j hj) h1 hbase
    unfold Oper.wp execOp
    simp only [ho, resolve, invoke, builtin, Sem.run_bind, Sem.run_pure, Result.andThen_ok, List.map_toArray, List.map_cons, List.map_nil, hs, hx, hr]
    exact hK _ _ (h v' w' h3 h4)
/-- At a step of a region whose order is open. -/
theorem step_app_o (T : ElT S E z n) (h1c : ∀ x, (f x).oneCell' = true) {w : World} {ops : Array Oper} {o : Oper} {a : Act} {K : Act → World → Prop} {Q : Exit → Act → World → Prop} {F : Prop} (hgd : o.guard = none) (s x : Operand)
    (ho : o.op = .call { callee := .builtin .append, args := #[s, x], argTypes := #[S, S] })
    (base : Nat) (v : Value) (l : List α) (hs : a.eval s = v) (hown : Own E f w base v l) (A : Option Addr) (b off m c : Nat) (k : List α) (hx : a.eval x = .slice A m c) (hk : SlF f w A b off m k)
    (h1 : l.length + m ≤ 1000000) (hbase : base ≤ w.heap.size)
    (h : ∀ v' w', Own E f w' base v' (l ++ k) → w.grownBy w' v.ownBlock → K (a.put o.dst v') w') :
    if Region.wanted o (yielded ops a.tmps) = true then Oper.wp Tryd.prog o a w K Q else F := by
  have hw : Region.wanted o (yielded ops a.tmps) = true := by simp [Region.wanted, hgd]
  rw [if_pos hw]
  obtain ⟨v', w', hr, h3, h4⟩ := run_app_o T h1c w base o.type v l hown A ⟨b, off, none⟩ m c k hk.ptr hk.ln (fun j hj => by rw [addr_add]; exact hk.cells j hj) h1 hbase
  unfold Oper.wp execOp
  simp only [ho, resolve, invoke, builtin, Sem.run_bind, Sem.run_pure, Result.andThen_ok, List.map_toArray, List.map_cons, List.map_nil, hs, hx, hr]
  exact h v' w' h3 h4
end
end Go.Proofs.YtidhhndclkilnaaDoor
