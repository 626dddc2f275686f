/-
  An append of a list that came in, nil or not, onto a slice of the call's own; and what the laws on days and on the one form need of errors.
-/
import Derived.Test.YtomcngnfdflkkaaSLaw
import Derived.Laws.OwnMore
namespace Go.Proofs.Ytomcngnfdflkkaa
open Go.RowKit Spn Go.Sort

theorem Own.start (w : World) (T : TypeId) (hT : T = 37) : Own (w.alloc (.cells #[] T)) w.heap.size (.slice (some ⟨w.heap.size, 0, none⟩) 0 0) [] := by
  subst hT
  exact ⟨rfl, .inr ⟨w.heap.size, 0, #[], rfl, Nat.le_refl _, heap_alloc_new w _, Nat.le_refl _, by unfold maxLen; omega, rfl, rfl⟩⟩
theorem list_app_any {w : World} {ops : Array Oper} {rest : List Oper} {o : Oper} {a : Act} {Q : Exit → Act → World → Prop} (hgd : o.guard = none) (s x : Operand)
    (ho : o.op = .call { callee := .builtin .append, args := #[s, x], argTypes := #[22, 22] })
    (base : Nat) (v : Value) (l : List (Int × Int)) (hs : a.eval s = v) (hown : Own w base v l) (A : Option Addr) (b off m c : Nat) (k : List (Int × Int)) (hx : a.eval x = .slice A m c) (hk : Sl w A b off m k) (hn : A = none → m = 0 ∧ c = 0)
    (h1 : (l.length + m) * 16 ≤ 140737488355328) (hbase : base ≤ w.heap.size)
    (h : ∀ v' w', Own w' base v' (l ++ k) → RowKit.Below base w w' → wpList Try.prog ops Q rest (a.put o.dst v') w') : wpList Try.prog ops Q (o :: rest) a w := by
  cases A with
  | none =>
    obtain ⟨rfl, rfl⟩ := hn rfl
    obtain rfl : k = [] := List.length_eq_zero_iff.1 hk.1
    obtain ⟨i, hi, _⟩ := Option.map_eq_some_iff.1 info_span
    refine wpList_plain hgd fun _ hK => ?_
    have hrun := run_append_owned_none (P := Try.prog) (w := w) base 22 o.type 37 i 2 Try.underlying22 hi v l.length (fl l) hown
    unfold Oper.wp execOp
    simp only [ho, resolve, invoke, builtin, Sem.run_bind, Sem.run_pure, Result.andThen_ok, List.map_toArray, List.map_cons, List.map_nil, hs, hx, hrun]
    exact hK _ _ (h v w (by rw [List.append_nil]; exact hown) (Below.refl _ _))
  | some ad =>
    refine list_app hgd s x ho base v l hs hown ad m c k hx hk.1 ?_ h1 hbase fun v' w' h2 h3 => h v' w' h2 ((Below.refl _ _).grown h3 hbase hown.block)
    by_cases hm : 0 < m
    · have := hk.2.1 hm
      injection this with e
      subst e
      exact hk.from
    · obtain rfl : k = [] := List.length_eq_zero_iff.1 (by have := hk.1; omega)
      intro j hj
      simp at hj

theorem err_len {kf : Bool → Bool → Bool} (hk : Op3 kf) {a b : List (Int × Int)} (ha : Vl a) (hb : Vl b) : opE kf a b = 0 ∨ opE kf a b = 2 ∧ 1000 < a.length + b.length := by
  by_cases h : (runs fun d => kf (cov a d) (cov b d)).length ≤ 1000
  · exact .inl (good_of hk ha hb h).err
  · exact .inr ⟨op_bad ha hb h, by have := hk.len ha.2.1 hb.2.1; omega⟩
theorem good_err {kf : Bool → Bool → Bool} (hk : Op3 kf) {a b : List (Int × Int)} (ha : Vl a) (hb : Vl b) (h : opE kf a b = 0) : Good kf a b (opV kf a b) := by
  by_cases hl : (runs fun d => kf (cov a d) (cov b d)).length ≤ 1000
  · have := good_of hk ha hb hl
    rw [this.val]; exact this
  · rw [op_bad ha hb hl] at h; cases h
theorem normal_union {a b : List (Int × Int)} (ha : Vl a) (hb : Vl b) : noV (b ++ a) = opV kU a b ∧ noE (b ++ a) = opE kU a b := by
  have h1 : sts (b ++ a) = true := sts_iff.2 fun s hs => by
    rcases List.mem_append.1 hs with h | h
    · exact hb.2.1 s h
    · exact ha.2.1 s h
  have h2 : runs (cov (b ++ a)) = runs fun d => kU (cov a d) (cov b d) := runs_congr fun d => by rw [cov_append]; exact Bool.or_comm _ _
  unfold noV noE opV opE
  rw [h1, vl_iff.2 ha, vl_iff.2 hb, h2]
  exact ⟨rfl, rfl⟩
theorem hsV_of {l : List (Int × Int)} (h : Vl l) (d : Int) : hsV l d = cov l d := (hs_ok d (vl_iff.2 h)).1
end Go.Proofs.Ytomcngnfdflkkaa
