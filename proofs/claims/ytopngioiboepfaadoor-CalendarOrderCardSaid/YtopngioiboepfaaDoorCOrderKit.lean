/-
  What the law on the order of deadlines needs: holidays without one of them; an append onto a slice of the call's own, within a region whose order is open.
-/
import Derived.Test.YtopngioiboepfaaDoorCDeadWalk
import Derived.Deep.AppendLies
import Derived.Deep.RegionHeld3
import Derived.Deep.DrawnRows
namespace Go.Proofs.YtopngioiboepfaaDoor
open Go.RowKit Cal

theorem hol_less {l : List Int} (h : hol l = true) (k : Nat) : hol (l.eraseIdx k) = true := by
  obtain ⟨h1, h2, h3⟩ := (hol_iff l).1 h
  have s := List.eraseIdx_sublist l k
  exact (hol_iff _).2 ⟨Nat.le_trans s.length_le h1, fun x hx => h2 x (s.subset hx), h3.sublist s⟩
theorem less_eq (l : List Int) (k : Nat) : l.take k ++ l.drop (k + 1) = l.eraseIdx k := (List.eraseIdx_eq_take_drop_succ l k).symm

/-- The place that is left out. -/
theorem place (which : Int) (len : Nat) (h : 0 < len) : ∃ k : Nat, k < len ∧ (which.tmod (len : Int) + len) % (len : Int) = k ∧ -(len : Int) < which.tmod (len : Int) ∧ which.tmod (len : Int) < len := by
  have h1 : which.tmod (len : Int) < len := Int.tmod_lt_of_pos which (by omega)
  have h2 : -(len : Int) < which.tmod (len : Int) := by
    have := Int.lt_tmod_of_pos which (show (0 : Int) < len by omega)
    exact this
  have h3 := Int.emod_nonneg (which.tmod (len : Int) + len) (show (len : Int) ≠ 0 by omega)
  have h4 := Int.emod_lt_of_pos (which.tmod (len : Int) + len) (show (0 : Int) < len by omega)
  exact ⟨((which.tmod (len : Int) + len) % (len : Int)).toNat, by omega, by omega, h2, h1⟩

theorem info_int : (Tryd.prog.info? 3).map (fun i => (i.zero, i.size, i.bytes)) = some (some (.int .i64 0), 1, 8) := by kernel_rfl

def vi (x : Int) : Value := .int .i64 x
/-- A slice of the call's own that reads as a list. -/
def Own (w : World) (base : Nat) (v : Value) (l : List Int) : Prop := w.ownsRow base 3 1 v l.length (l.map vi)

theorem Own.nil (w : World) : Own (w.alloc (.cells #[] 3)) w.heap.size (.slice (some ⟨w.heap.size, 0, none⟩) 0 0) [] :=
  ⟨rfl, .inr ⟨w.heap.size, 0, #[], rfl, Nat.le_refl _, heap_alloc_new w _, Nat.le_refl _, by unfold maxLen; omega, rfl, rfl⟩⟩

theorem Own.block {w : World} {base : Nat} {v : Value} {l : List Int} (h : Own w base v l) : ∀ k, v.ownBlock = some k → base ≤ k := by
  intro k hk
  rcases h.2 with ⟨rfl, _⟩ | ⟨g, cap, cur, rfl, hg, _⟩
  · cases hk
  · simp [Value.ownBlock] at hk; omega

theorem Own.reads {w : World} {base : Nat} {v : Value} {l : List Int} (h : Own w base v l) (hm : l.length ≤ 9223372036854775807) : ∃ p b off len cap, v = .slice p len cap ∧ Sl w p b off len l := by
  obtain ⟨_, h⟩ := h
  rcases h with ⟨rfl, h0⟩ | ⟨g, cap, cur, rfl, hg, hb, hn, hc, hs, hx⟩
  · obtain rfl : l = [] := List.length_eq_zero_iff.1 h0
    exact ⟨none, 0, 0, 0, 0, rfl, sl_nil w⟩
  · refine ⟨_, g, 0, l.length, cap, rfl, rfl, fun _ => rfl, fun k hk => ?_, fun _ => ?_, hm⟩
    · rw [Nat.zero_add, cell_of_row w g k cur _ _ hb]
      have e := congrArg (fun z => z[k]?) hx
      simp only [List.getElem?_take, Nat.mul_one, List.getElem?_map, hk, if_true] at e
      rw [← Array.getElem?_toList, e, List.getElem?_eq_getElem hk]; rfl
    · rcases Nat.lt_or_ge g w.heap.size with z | z
      · exact z
      · rw [Array.getElem?_eq_none z] at hb; cases hb

theorem run_app (w : World) (base : Nat) (ty : TypeId) (v : Value) (l : List Int) (hown : Own w base v l) (ad : Addr) (m c : Nat) (k : List Int) (hl : k.length = m) (hnews : ∀ (j : Nat) (h : j < k.length), w.cell? (ad.add j) = some (.int .i64 k[j]))
    (h1 : l.length ≤ 1000) (h2 : m ≤ 1000) (hbase : base ≤ w.heap.size) :
    ∃ v' w', (Builtin.append_ #[22, 22] ty #[v, .slice (some ad) m c]).run Tryd.prog w = .ok v' w' ∧ Own w' base v' (l ++ k) ∧ w.grownBy w' v.ownBlock := by
  obtain ⟨i, hi, hz⟩ := Option.map_eq_some_iff.1 info_int
  simp only [Prod.mk.injEq] at hz
  obtain ⟨v', w', hr, h3, h4, _, _⟩ := run_append_own_at (P := Tryd.prog) w base 22 ty 3 i (.int .i64 0) 1 8 Tryd.underlying22 hi hz.1 hz.2.1 hz.2.2 rfl (by omega) v l.length (l.map vi) hown ad m c (k.map vi) (by simp [hl])
    (fun j u hu => by
      simp only [List.getElem?_map, Option.map_eq_some_iff] at hu
      obtain ⟨x, hx, rfl⟩ := hu
      obtain ⟨hj, e⟩ := List.getElem?_eq_some_iff.1 hx
      rw [hnews j hj, e]; rfl)
    (fun u hu => by obtain ⟨x, _, rfl⟩ := List.mem_map.1 hu; rfl) (by unfold maxLen; omega) (by omega) hbase
  refine ⟨v', w', hr, ?_, h4⟩
  unfold Own
  rw [List.length_append, List.map_append, hl]
  exact h3

/-- At a step of a region whose order is open. -/
theorem step_app {w : World} {ops : Array Oper} {o : Oper} {a : Act} {K : Act → World → Prop} {Q : Exit → Act → World → Prop} {E : Prop} (hgd : o.guard = none) (s x : Operand)
    (ho : o.op = .call { callee := .builtin .append, args := #[s, x], argTypes := #[22, 22] })
    (base : Nat) (v : Value) (l : List Int) (hs : a.eval s = v) (hown : Own w base v l) (A : Option Addr) (ad : Addr) (m c : Nat) (k : List Int) (hx : a.eval x = .slice A m c) (hA : A = some ad) (hl : k.length = m) (hnews : ∀ (j : Nat) (h : j < k.length), w.cell? (ad.add j) = some (.int .i64 k[j]))
    (h1 : l.length ≤ 1000) (h2 : m ≤ 1000) (hbase : base ≤ w.heap.size)
    (h : ∀ v' w', Own w' base v' (l ++ k) → w.grownBy w' v.ownBlock → K (a.put o.dst v') w') :
    if Region.wanted o (yielded ops a.tmps) = true then Oper.wp Tryd.prog o a w K Q else E := by
  subst hA
  have hw : Region.wanted o (yielded ops a.tmps) = true := by simp [Region.wanted, hgd]
  rw [if_pos hw]
  obtain ⟨v', w', hr, h3, h4⟩ := run_app w base o.type v l hown ad m c k hl hnews h1 h2 hbase
  unfold Oper.wp execOp
  simp only [ho, resolve, invoke, builtin, Sem.run_bind, Sem.run_pure, Result.andThen_ok, List.map_toArray, List.map_cons, List.map_nil, hs, hx, hr]
  exact h v' w' h3 h4

theorem Own.drew {w : World} {base : Nat} {v : Value} {l : List Int} (h : Own w base v l) : Own w.drew base v l := h
theorem addr_add (b off i : Nat) : (⟨b, off, none⟩ : Addr).add i = ⟨b, off + i, none⟩ := by unfold Addr.add; split <;> simp_all
theorem Sl.front {w : World} {b off len : Nat} {l : List Int} (h : Sl w (some ⟨b, off, none⟩) b off len l) (k : Nat) : ∀ (j : Nat) (hj : j < (l.take k).length), w.cell? ((⟨b, off, none⟩ : Addr).add j) = some (.int .i64 (l.take k)[j]) := by
  intro j hj
  have hj2 := hj
  rw [List.length_take] at hj2
  rw [addr_add, List.getElem_take]
  exact h.2.2.1 j (by omega)
/-- Where what is behind place k begins. -/
def behind (b off cap k : Nat) : Addr := if cap = k + 1 then ⟨b, off, none⟩ else ⟨b, off + (k + 1), none⟩
theorem behind_eq (b off cap k : Nat) : (if cap = k + 1 then some (⟨b, off, none⟩ : Addr) else some ⟨b, off + (k + 1), none⟩) = some (behind b off cap k) := by
  unfold behind; split <;> rfl
theorem Sl.back {w : World} {b off len cap : Nat} {l : List Int} (h : Sl w (some ⟨b, off, none⟩) b off len l) (hc : len ≤ cap) (k : Nat) : ∀ (j : Nat) (hj : j < (l.drop (k + 1)).length), w.cell? ((behind b off cap k).add j) = some (.int .i64 (l.drop (k + 1))[j]) := by
  intro j hj
  have hj2 := hj
  rw [List.length_drop, h.1] at hj2
  unfold behind
  rw [if_neg (by omega), addr_add, List.getElem_drop]
  have := h.2.2.1 (k + 1 + j) (by have := h.1; omega)
  rw [show off + (k + 1) + j = off + (k + 1 + j) by omega]
  exact this
end Go.Proofs.YtopngioiboepfaaDoor
