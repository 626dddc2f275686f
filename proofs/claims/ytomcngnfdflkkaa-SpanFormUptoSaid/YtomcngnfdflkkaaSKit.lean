/-
  Slices of stretches of a call's own: what they hold, how they read, and an append onto them.
-/
import Derived.Test.YtomcngnfdflkkaaSWalks5
import Derived.Deep.AppendLies
import Derived.Deep.RegionHeld3
import Derived.Deep.DrawnRows
namespace Go.Proofs.Ytomcngnfdflkkaa
open Go.RowKit Spn Go.Sort

theorem info_span : (Try.prog.info? 37).map (fun i => (i.zero, i.size, i.bytes)) = some (some (.agg #[.int .i64 0, .int .i64 0]), 2, 16) := by kernel_rfl

def vi (x : Int) : Value := .int .i64 x
/-- The cells of stretches. -/
def fl : List (Int × Int) → List Value
  | [] => []
  | s :: l => vi s.1 :: vi s.2 :: fl l
theorem fl_len : ∀ l, (fl l).length = l.length * 2
  | [] => rfl
  | s :: l => by rw [fl, List.length_cons, List.length_cons, fl_len, List.length_cons]; omega
theorem fl_app : ∀ l m, fl (l ++ m) = fl l ++ fl m
  | [], _ => rfl
  | s :: l, m => by rw [List.cons_append, fl, fl, fl_app]; rfl
theorem fl_at : ∀ (l : List (Int × Int)) (k : Nat) (h : k < l.length), (fl l)[k * 2]? = some (vi l[k].1) ∧ (fl l)[k * 2 + 1]? = some (vi l[k].2)
  | s :: l, 0, _ => ⟨rfl, rfl⟩
  | s :: l, k + 1, h => by
    have := fl_at l k (by simpa using h)
    rw [show (k + 1) * 2 = k * 2 + 1 + 1 by omega, fl, List.getElem?_cons_succ, List.getElem?_cons_succ, List.getElem?_cons_succ, List.getElem?_cons_succ, List.getElem_cons_succ]
    exact this
theorem fl_int : ∀ (l : List (Int × Int)) (u : Value), u ∈ fl l → ∃ x, u = vi x
  | s :: l, u, h => by
    rw [fl] at h
    rcases List.mem_cons.1 h with rfl | h
    · exact ⟨_, rfl⟩
    · rcases List.mem_cons.1 h with rfl | h
      · exact ⟨_, rfl⟩
      · exact fl_int l u h

/-- A slice of the call's own that reads as a list. -/
def Own (w : World) (base : Nat) (v : Value) (l : List (Int × Int)) : Prop := w.ownsRow base 37 2 v l.length (fl l)
theorem Own.empty (w : World) (base : Nat) : Own w base (.slice none 0 0) [] := World.ownsRow_nil _ _ _ _
theorem Own.block {w : World} {base : Nat} {v : Value} {l : List (Int × Int)} (h : Own w base v l) : ∀ k, v.ownBlock = some k → base ≤ k := by
  intro k hk
  rcases h.2 with ⟨rfl, _⟩ | ⟨g, cap, cur, rfl, hg, _⟩
  · cases hk
  · simp [Value.ownBlock] at hk; omega
theorem Own.alloc {w : World} {base : Nat} {v : Value} {l : List (Int × Int)} (h : Own w base v l) (o : Obj) : Own (w.alloc o) base v l := World.ownsRow.alloc h o
theorem Own.drewN {w : World} {base : Nat} {v : Value} {l : List (Int × Int)} (h : Own w base v l) (n : Nat) : Own (w.drewN n) base v l := h
theorem Own.reads {w : World} {base : Nat} {v : Value} {l : List (Int × Int)} (h : Own w base v l) (hm : l.length ≤ 9223372036854775807) (hI : ∀ s, s ∈ l → In64 s.1 ∧ In64 s.2) : ∃ p b cap, v = .slice p l.length cap ∧ Sl w p b 0 l.length l := by
  obtain ⟨_, h⟩ := h
  rcases h with ⟨rfl, h0⟩ | ⟨g, cap, cur, rfl, hg, hb, hn, hc, hs, hx⟩
  · obtain rfl : l = [] := List.length_eq_zero_iff.1 h0
    exact ⟨_, 0, 0, rfl, Sl.nil w _⟩
  · have cl : ∀ j v, (fl l)[j]? = some v → w.cell? ⟨g, j, none⟩ = some v := fun j v hv => by
      rw [cell_of_row w g j cur _ _ hb]
      have hj : j < l.length * 2 := by
        have := (List.getElem?_eq_some_iff.1 hv).1; rw [fl_len] at this; exact this
      have e := congrArg (fun z => z[j]?) hx
      simp only [List.getElem?_take, hj, if_true] at e
      rw [← Array.getElem?_toList, e, hv]
    refine ⟨_, g, cap, rfl, rfl, fun _ => rfl, fun k hk => ?_, fun _ => ?_, hm, hI⟩
    · rw [Nat.zero_add]
      exact ⟨cl _ _ (fl_at l k hk).1, cl _ _ (fl_at l k hk).2⟩
    · rcases Nat.lt_or_ge g w.heap.size with z | z
      · exact z
      · rw [Array.getElem?_eq_none z] at hb; cases hb

theorem addr_add (b off i : Nat) : (⟨b, off, none⟩ : Addr).add i = ⟨b, off + i, none⟩ := by unfold Addr.add; split <;> simp_all

/-- Stretches lie from an address on. -/
def From (w : World) (ad : Addr) (k : List (Int × Int)) : Prop := ∀ (j : Nat) (h : j < k.length), w.cell? (ad.add (j * 2)) = some (.int .i64 k[j].1) ∧ w.cell? (ad.add (j * 2 + 1)) = some (.int .i64 k[j].2)
theorem From.one {w : World} {b : Nat} {x y : Int} (h0 : w.cell? ⟨b, 0, none⟩ = some (.int .i64 x)) (h1 : w.cell? ⟨b, 1, none⟩ = some (.int .i64 y)) : From w ⟨b, 0, none⟩ [(x, y)] := fun j hj => by
  obtain rfl : j = 0 := by simp at hj; exact hj
  rw [addr_add, addr_add]
  exact ⟨h0, h1⟩
theorem From.new (w : World) (x y : Int) (T : TypeId) : From (w.alloc (.cells #[.int .i64 x, .int .i64 y] T)) ⟨w.heap.size, 0, none⟩ [(x, y)] :=
  From.one (by rw [World.cell?_alloc_new]; rfl) (by rw [World.cell?_alloc_new]; rfl)
theorem Sl.from {w : World} {b off len : Nat} {p : Option Addr} {l : List (Int × Int)} (h : Sl w p b off len l) : From w ⟨b, off, none⟩ l := fun j hj => by
  rw [addr_add, addr_add, ← Nat.add_assoc]
  exact h.2.2.1 j hj

theorem From.news {w : World} {ad : Addr} {k : List (Int × Int)} (h : From w ad k) : ∀ j u, (fl k)[j]? = some u → w.cell? (ad.add j) = some u := fun j u hu => by
  have hj := (List.getElem?_eq_some_iff.1 hu).1
  rw [fl_len] at hj
  have a := fl_at k (j / 2) (by omega)
  have b := h (j / 2) (by omega)
  rcases (show j = j / 2 * 2 ∨ j = j / 2 * 2 + 1 by omega) with e | e
  · rw [← e] at a b
    rw [b.1]; rw [a.1] at hu; exact hu
  · rw [← e] at a b
    rw [b.2]; rw [a.2] at hu; exact hu

theorem run_app (w : World) (base : Nat) (ty : TypeId) (v : Value) (l : List (Int × Int)) (hown : Own w base v l) (ad : Addr) (m c : Nat) (k : List (Int × Int)) (hl : k.length = m) (hnews : From w ad k)
    (h1 : (l.length + m) * 16 ≤ 140737488355328) (hbase : base ≤ w.heap.size) :
    ∃ v' w', (Builtin.append_ #[22, 22] ty #[v, .slice (some ad) m c]).run Try.prog w = .ok v' w' ∧ Own w' base v' (l ++ k) ∧ w.grownBy w' v.ownBlock := by
  obtain ⟨i, hi, hz⟩ := Option.map_eq_some_iff.1 info_span
  simp only [Prod.mk.injEq] at hz
  obtain ⟨v', w', hr, h3, h4, _, _⟩ := run_append_own_at (P := Try.prog) w base 22 ty 37 i (.agg #[.int .i64 0, .int .i64 0]) 2 16 Try.underlying22 hi hz.1 hz.2.1 hz.2.2 rfl (by omega) v l.length (fl l) hown ad m c (fl k) (by rw [fl_len, hl])
    hnews.news (fun u hu => by obtain ⟨x, rfl⟩ := fl_int k u hu; rfl) (by unfold maxLen; omega) h1 hbase
  refine ⟨v', w', hr, ?_, h4⟩
  unfold Own
  rw [List.length_append, fl_app, hl]
  exact h3

/-- At a step of a region whose order is open. -/
theorem step_app {w : World} {ops : Array Oper} {o : Oper} {a : Act} {K : Act → World → Prop} {Q : Exit → Act → World → Prop} {E : Prop} (hgd : o.guard = none) (s x : Operand)
    (ho : o.op = .call { callee := .builtin .append, args := #[s, x], argTypes := #[22, 22] })
    (base : Nat) (v : Value) (l : List (Int × Int)) (hs : a.eval s = v) (hown : Own w base v l) (ad : Addr) (m c : Nat) (k : List (Int × Int)) (hx : a.eval x = .slice (some ad) m c) (hl : k.length = m) (hnews : From w ad k)
    (h1 : (l.length + m) * 16 ≤ 140737488355328) (hbase : base ≤ w.heap.size)
    (h : ∀ v' w', Own w' base v' (l ++ k) → w.grownBy w' v.ownBlock → K (a.put o.dst v') w') :
    if Region.wanted o (yielded ops a.tmps) = true then Oper.wp Try.prog o a w K Q else E := by
  have hw : Region.wanted o (yielded ops a.tmps) = true := by simp [Region.wanted, hgd]
  rw [if_pos hw]
  obtain ⟨v', w', hr, h3, h4⟩ := run_app w base o.type v l hown ad m c k hl hnews h1 hbase
  unfold Oper.wp execOp
  simp only [ho, resolve, invoke, builtin, Sem.run_bind, Sem.run_pure, Result.andThen_ok, List.map_toArray, List.map_cons, List.map_nil, hs, hx, hr]
  exact h v' w' h3 h4
/-- At a step of a region in the order of the text. -/
theorem list_app {w : World} {ops : Array Oper} {rest : List Oper} {o : Oper} {a : Act} {Q : Exit → Act → World → Prop} (hgd : o.guard = none) (s x : Operand)
    (ho : o.op = .call { callee := .builtin .append, args := #[s, x], argTypes := #[22, 22] })
    (base : Nat) (v : Value) (l : List (Int × Int)) (hs : a.eval s = v) (hown : Own w base v l) (ad : Addr) (m c : Nat) (k : List (Int × Int)) (hx : a.eval x = .slice (some ad) m c) (hl : k.length = m) (hnews : From w ad k)
    (h1 : (l.length + m) * 16 ≤ 140737488355328) (hbase : base ≤ w.heap.size)
    (h : ∀ v' w', Own w' base v' (l ++ k) → w.grownBy w' v.ownBlock → wpList Try.prog ops Q rest (a.put o.dst v') w') : wpList Try.prog ops Q (o :: rest) a w :=
  wpList_plain hgd fun _ hK => by
    obtain ⟨v', w', hr, h3, h4⟩ := run_app w base o.type v l hown ad m c k hl hnews h1 hbase
    unfold Oper.wp execOp
    simp only [ho, resolve, invoke, builtin, Sem.run_bind, Sem.run_pure, Result.andThen_ok, List.map_toArray, List.map_cons, List.map_nil, hs, hx, hr]
    exact hK _ _ (h v' w' h3 h4)
end Go.Proofs.Ytomcngnfdflkkaa
