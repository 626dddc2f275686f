/-
  ZN: several texts in one.
-/
import Derived.Test.YtjifiijgghpniaaZK
import Derived.Test.YtjifiijgghpniaaZJ
import Derived.Test.YtjifiijgghpniaaZM
/-
  Rows that are copied behind others; a row that is stored into a slice; an expression with another operand.
-/
namespace Go.Proofs.Ytjifiijgghpniaa
open Go.RowKit Un MapKept

theorem info_Nd : (Try.prog.info? 32).map (fun i => (i.zero.map (·.cells.size), i.size, decide (i.bytes ≤ 1000))) = some (some 10, 10, true) := by kernel_rfl
theorem info_Dc : (Try.prog.info? 47).map (fun i => (i.zero.map (·.cells.size), i.size, decide (i.bytes ≤ 1000))) = some (some 8, 8, true) := by kernel_rfl
theorem slice0_N (w : World) : (Instr.buildSlice 30 0 #[]).run Try.prog w = .ok (.slice (some ⟨w.heap.size, 0, none⟩) 0 0) (w.alloc (.cells #[] 32)) := by kernel_rfl
theorem slice0_D (w : World) : (Instr.buildSlice 22 0 #[]).run Try.prog w = .ok (.slice (some ⟨w.heap.size, 0, none⟩) 0 0) (w.alloc (.cells #[] 47)) := by kernel_rfl
theorem own_new (w : World) (base E size : Nat) (hb : base ≤ w.heap.size) : (w.alloc (.cells #[] E)).ownsRow base E size (.slice (some ⟨w.heap.size, 0, none⟩) 0 0) 0 [] := by
  refine ⟨by simp, .inr ⟨w.heap.size, 0, #[], rfl, hb, (MapKept.heap_alloc w _).1, Nat.le_refl _, Nat.zero_le _, by simp, by simp⟩⟩
theorem app_nothing (sl E : Nat) (i : TypeInfo) (hsl : Try.prog.underlying sl = some (.slice E)) (hi : Try.prog.info? E = some i) (w : World) (ty : TypeId) (q p : Option Addr) (n c cp : Nat) (hle : n ≤ c) : (Builtin.append_ #[sl, sl] ty #[.slice q n c, .slice p 0 cp]).run Try.prog w = .ok (.slice q n c) w := by
  cases q <;> cases p <;> simp [Builtin.append_, Builtin.lenOf, Builtin.firstCells, run_underlying hsl, sizeOf, typeInfo, hi, hle, storeCells, loadCells, loadCellsFrom]
theorem own_le {w : World} {base E size n c : Nat} {q : Option Addr} {xs : List Value} (h : w.ownsRow base E size (.slice q n c) n xs) : n ≤ c := by
  rcases h.2 with ⟨h1, h2⟩ | ⟨g, cap, cur, h1, _, _, h2, _⟩
  · omega
  · simp only [Value.slice.injEq] at h1; omega
/-- What came in is appended onto a slice of the call's own. -/
theorem own_cat (sl E size : Nat) (hsl : Try.prog.underlying sl = some (.slice E)) (hi : (Try.prog.info? E).map (fun i => (i.zero.map (·.cells.size), i.size, decide (i.bytes ≤ 1000))) = some (some size, size, true)) (hs : 0 < size)
    (w : World) (base : Nat) (ty : TypeId) (q : Option Addr) (n c : Nat) (xs : List Value) (hown : w.ownsRow base E size (.slice q n c) n xs) (p : Option Addr) (m cp : Nat) (news : List Value) (hsrc : 0 < m → ∃ g o, p = some ⟨g, o, none⟩ ∧ ∀ j u, news[j]? = some u → w.cell? ⟨g, o + j, none⟩ = some u) (hl : news.length = m * size) (h1 : ∀ u ∈ news, u.oneCell' = true) (hn : n + m ≤ 1000000) (hbase : base ≤ w.heap.size) :
    ∃ q' c' w', (Builtin.append_ #[sl, sl] ty #[.slice q n c, .slice p m cp]).run Try.prog w = .ok (.slice q' (n + m) c') w' ∧ w'.ownsRow base E size (.slice q' (n + m) c') (n + m) (xs ++ news) ∧ w.grownBy w' (Value.slice q n c).ownBlock ∧ ((Value.slice q' (n + m) c').ownBlock = (Value.slice q n c).ownBlock ∨ (Value.slice q' (n + m) c').ownBlock = some w.heap.size) := by
  obtain ⟨i, hi, hz⟩ := Option.map_eq_some_iff.1 hi
  simp only [Prod.mk.injEq, decide_eq_true_eq] at hz
  obtain ⟨hz1, hz2, hz3⟩ := hz
  obtain ⟨z, hz, hzs⟩ := Option.map_eq_some_iff.1 hz1
  by_cases h0 : m = 0
  · subst h0
    obtain rfl : news = [] := List.length_eq_zero_iff.1 (by rw [hl]; simp)
    refine ⟨q, c, w, app_nothing sl E i hsl hi w ty q p n c cp (own_le hown), ?_, ⟨rfl, rfl, rfl, Nat.le_refl _, fun _ _ _ => rfl⟩, .inl rfl⟩
    rw [Nat.add_zero, List.append_nil]; exact hown
  · obtain ⟨g, o, rfl, hr⟩ := hsrc (by omega)
    obtain ⟨v', w', hr, h3, h4, _, h6⟩ := run_append_own_at (P := Try.prog) w base sl ty E i z size i.bytes hsl hi hz hz2 rfl hzs hs (.slice q n c) n xs hown ⟨g, o, none⟩ m cp news hl
      (fun j u hu => by rw [addr_add]; exact hr j u hu) h1 (by unfold maxLen; omega) (by
        have : (n + m) * i.bytes ≤ 1000000 * 1000 := Nat.mul_le_mul (by omega) hz3
        omega) hbase
    obtain ⟨q', c', rfl⟩ := own_slice h3
    exact ⟨q', c', w', hr, h3, h4, h6⟩
/-- The cells of rows one behind the other. -/
theorem flat_at (n : Nat) (hn : 0 < n) (rows : List (List Value)) (hl : ∀ l ∈ rows, l.length = n) {w : World} {b o : Nat} (h : ∀ (i : Nat) (r : List Value), rows[i]? = some r → ∀ (j : Nat) (v : Value), r[j]? = some v → w.cell? ⟨b, o + i * n + j, none⟩ = some v) :
    rows.flatten.length = rows.length * n ∧ ∀ (j : Nat) (u : Value), rows.flatten[j]? = some u → w.cell? ⟨b, o + j, none⟩ = some u := by
  have hfl : rows.flatten.length = rows.length * n := by
    clear h
    induction rows with
    | nil => simp
    | cons r rows ih =>
      rw [List.flatten_cons, List.length_append, ih (fun l hl' => hl l (by simp [hl'])), hl r (by simp), List.length_cons, Nat.succ_mul]
      omega
  refine ⟨hfl, fun j u hu => ?_⟩
  have hj := (List.getElem?_eq_some_iff.1 hu).1
  rw [hfl] at hj
  have hi : j / n < rows.length := (Nat.div_lt_iff_lt_mul hn).2 hj
  have hr : j % n < n := Nat.mod_lt _ hn
  have hlr := hl rows[j / n] (List.getElem_mem hi)
  have e := flat_get n rows hl (j / n) hi (j % n) _ (List.getElem?_eq_getElem (by omega))
  have ej : j / n * n + j % n = j := by rw [Nat.mul_comm]; exact Nat.div_add_mod j n
  rw [ej, hu] at e
  have := h (j / n) _ (List.getElem?_eq_getElem hi) (j % n) _ (List.getElem?_eq_getElem (by omega))
  rw [← e, show o + j / n * n + j % n = o + j by omega] at this
  exact this
/-- Rows that the call owns, by their cells. -/
theorem own_rows {w : World} {base E n : Nat} {v : Value} {rows : List (List Value)} (h : w.ownsRow base E n v rows.length rows.flatten) (hl : ∀ l ∈ rows, l.length = n) (h0 : 0 < rows.length) :
    ∃ g cap, v = .slice (some ⟨g, 0, none⟩) rows.length cap ∧ base ≤ g ∧ rows.length ≤ cap ∧ g < w.heap.size ∧ (∀ j, w.frozen? ⟨g, j, none⟩ = false) ∧ ∀ (i : Nat) (r : List Value), rows[i]? = some r → ∀ (j : Nat) (v : Value), r[j]? = some v → w.cell? ⟨g, i * n + j, none⟩ = some v := by
  obtain ⟨p, b, cap, e, hs⟩ := own_slr h hl
  rcases h.2 with ⟨h1, h2⟩ | ⟨g, cap', cur, h1, h2, h3, h4, h5, h6, h7⟩
  · omega
  · subst e
    injection h1 with e1 _ e2
    subst e1 e2
    have hb := hs.ptr h0
    simp only [Option.some.injEq, Addr.mk.injEq, and_true] at hb
    subst hb
    refine ⟨_, _, rfl, h2, h4, hs.lt h0, fun j => by simp [World.frozen?, h3], fun i r hr j v hv => ?_⟩
    have := (hs.at_ i r hr).2 j v hv
    rwa [Nat.zero_add] at this
/-- A row is stored into a slice. -/
theorem store_at (T n : Nat) (hi : (Try.prog.info? T).map (·.size) = some n) (w : World) (b o : Nat) (L : List Value) (hL : L.length = n) (hc : ∀ j, j < n → (w.cell? ⟨b, o + j, none⟩).isSome = true) (hf : ∀ j, w.frozen? ⟨b, j, none⟩ = false) (h1 : ∀ u ∈ L, u.oneCell' = true) :
    (Instr.storeAt T (.pointer (some ⟨b, o, none⟩)) (.agg L.toArray)).run Try.prog w = .ok () (w.setCells b o L) := by
  have ht : w.there b o L.toArray.size := fun j hj => by
    rw [List.size_toArray] at hj
    exact ⟨hc j (by omega), hf _⟩
  exact run_storeAt_mid w b o T L.toArray ht (by rw [hi, List.size_toArray, hL]) (by rw [List.all_toArray, List.all_eq_true]; exact h1)
theorem rows_set {n k : Nat} {w : World} {g : Nat} {rows : List (List Value)} {L : List Value} (hk : k < rows.length) (hL : L.length = n) (hl : ∀ l ∈ rows, l.length = n) (h : ∀ (i : Nat) (r : List Value), rows[i]? = some r → ∀ (j : Nat) (v : Value), r[j]? = some v → w.cell? ⟨g, i * n + j, none⟩ = some v) :
    ∀ (i : Nat) (r : List Value), (rows.set k L)[i]? = some r → ∀ (j : Nat) (v : Value), r[j]? = some v → (w.setCells g (k * n) L).cell? ⟨g, i * n + j, none⟩ = some v := by
  intro i r hr j v hv
  have hj := (List.getElem?_eq_some_iff.1 hv).1
  rw [List.getElem?_set] at hr
  split at hr
  · rename_i e
    subst e
    cases hr
    have hlk := hl rows[k] (List.getElem_mem hk)
    have := World.cell?_setCells_in g L (k * n) w (fun q hq => Option.isSome_iff_exists.2 ⟨_, h k _ (List.getElem?_eq_getElem hk) q _ (List.getElem?_eq_getElem (by omega))⟩) j hj
    rw [this, ← hv]
    exact (List.getElem?_eq_getElem hj).symm
  · rename_i e
    have hlr := hl r (by obtain ⟨h1, h2⟩ := List.getElem?_eq_some_iff.1 hr; rw [← h2]; exact List.getElem_mem h1)
    rw [World.cell?_setCells_out g L (k * n) w ⟨g, i * n + j, none⟩ (fun _ _ => ?_)]
    · exact h i r hr j v hv
    · show i * n + j < k * n ∨ k * n + L.length ≤ i * n + j
      rcases Nat.lt_or_gt_of_ne (fun x => e x.symm) with h | h
      · left
        have : (i + 1) * n ≤ k * n := Nat.mul_le_mul_right n h
        rw [Nat.succ_mul] at this
        omega
      · right
        have : (k + 1) * n ≤ i * n := Nat.mul_le_mul_right n h
        rw [Nat.succ_mul] at this
        omega
theorem setK_ks (t : Nd) (i : Nat) (m : Nd) : (setK t i m).ks = t.ks.set i m := by cases t; rfl
theorem nC_setK (t : Nd) (x : Kd) (i : Nat) (m : Nd) (q : Option Addr) (c : Nat) : (nC t x).set 9 (.slice q t.ks.length c) = nC (setK t i m) ⟨q, c⟩ := by
  cases t
  simp only [setK, nC, Nd.ks, List.length_set]
  rfl
theorem nin_setK {t m : Nd} {i : Nat} (h : nin t) (hm : nin m) : nin (setK t i m) := by
  cases t with
  | mk op pl nm n d u ks =>
    simp only [setK, nin] at h ⊢
    refine ⟨h.1, h.2.1, nins_mk _ fun k hk => ?_⟩
    rcases List.mem_or_eq_of_mem_set hk with hk | rfl
    · obtain ⟨j, hj, rfl⟩ := List.getElem_of_mem hk
      exact nins_get ks j hj h.2.2
    · exact hm
/-- An expression with another operand, in memory. -/
theorem nd_setK {t m : Nd} {k : Nat} {w : World} {g c : Nat} {rows : List (List Value)} {lm : List Value} {A : Nat → Prop} (hk : k < t.ks.length) (hr : rows.length = t.ks.length)
    (hkid : ∀ i (hi : i < t.ks.length) (h' : i < rows.length), NV w A t.ks[i] rows[i]) (hm : NV w A m lm) (hmax : t.ks.length ≤ 9223372036854775807) (hg : g < w.heap.size) (hA : A g)
    (hc : ∀ (i : Nat) (r : List Value), (rows.set k lm)[i]? = some r → ∀ (j : Nat) (v : Value), r[j]? = some v → w.cell? ⟨g, i * 10 + j, none⟩ = some v) : NdM w A (setK t k m) ⟨some ⟨g, 0, none⟩, c⟩ := by
  cases t with
  | mk op pl nm n d u ks =>
    simp only [setK, Nd.ks] at *
    simp only [NdM, List.length_set]
    refine ⟨g, 0, fun _ => ⟨rfl, hA, hg⟩, hmax, KdM.mk _ _ fun i hi => ?_⟩
    rw [List.length_set] at hi
    by_cases e : k = i
    · subst e
      obtain ⟨z, rfl, hz⟩ := hm
      rw [List.getElem_set_self]
      refine ⟨z, fun j v hv => ?_, hz⟩
      rw [Nat.zero_add]
      exact hc k _ (by rw [List.getElem?_set_self (by omega)]) j v hv
    · obtain ⟨z, hz1, hz⟩ := hkid i hi (by omega)
      rw [List.getElem_set_ne e]
      refine ⟨z, fun j v hv => ?_, hz⟩
      rw [Nat.zero_add]
      exact hc i _ (by rw [List.getElem?_set_ne e]; exact List.getElem?_eq_getElem (by omega)) j v (by rw [hz1]; exact hv)
theorem ofV_setK {L : List Dc} {t m : Nd} {k : Nat} {u v : U} (hk : k < t.ks.length) (h1 : ofV vld L t = .ok u) (h2 : ofV vld L t.ks[k] = .ok v) (h3 : ofV vld L m = .ok v) (hf : form vld (setK t k m) = true) : ofV vld L (setK t k m) = .ok u := by
  obtain ⟨r1, f1⟩ := ofV_ok h1
  rw [Bool.and_eq_true] at r1
  exact ofV_of (by rw [r1.1, hf]; rfl) (replaces f1 (List.getElem?_eq_getElem hk) (ofV_ok h2).2 (ofV_ok h3).2 (form_op r1.2 (List.getElem_mem hk)))
end Go.Proofs.Ytjifiijgghpniaa
/-
  The walk of the law on operands that are replaced.
-/
namespace Go.Proofs.Ytjifiijgghpniaa
open Go.RowKit Un MapKept

/-- An expression's operands as rows, in all later worlds. -/
theorem kids_rows {w : World} {t : Nd} {x : Kd} (hx : NdM w (fun _ => True) t x) : ∃ (bq oq : Nat) (rows : List (List Value)), (0 < t.ks.length → x.q = some ⟨bq, oq, none⟩) ∧ rows.length = t.ks.length ∧ (∀ r ∈ rows, r.length = 10 ∧ ∀ u ∈ r, u.oneCell' = true) ∧
    ∀ V, RowKit.Below w.heap.size w V → (∀ (i : Nat) (r : List Value), rows[i]? = some r → ∀ (j : Nat) (v : Value), r[j]? = some v → V.cell? ⟨bq, oq + i * 10 + j, none⟩ = some v) ∧ ∀ i (hi : i < t.ks.length) (h' : i < rows.length), NV V (fun _ => True) t.ks[i] rows[i] := by
  obtain ⟨bq, oq, hq, hkl, hk⟩ := kids_at hx
  have each : ∀ i, ∃ y : Kd, ∀ (hi : i < t.ks.length), ∀ V, RowKit.Below w.heap.size w V → (∀ (j : Nat) (v : Value), (nC t.ks[i] y)[j]? = some v → V.cell? ⟨bq, oq + i * 10 + j, none⟩ = some v) ∧ NdM V (fun _ => True) t.ks[i] y := fun i => by
    by_cases hi : i < t.ks.length
    · obtain ⟨y, hy⟩ := hk i hi
      exact ⟨y, fun _ => hy⟩
    · exact ⟨⟨none, 0⟩, fun h => absurd h hi⟩
  obtain ⟨Y, hY⟩ := (⟨fun i => (each i).choose, fun i => (each i).choose_spec⟩ : ∃ Y : Nat → Kd, ∀ i (hi : i < t.ks.length), ∀ V, RowKit.Below w.heap.size w V → (∀ (j : Nat) (v : Value), (nC t.ks[i] (Y i))[j]? = some v → V.cell? ⟨bq, oq + i * 10 + j, none⟩ = some v) ∧ NdM V (fun _ => True) t.ks[i] (Y i))
  refine ⟨bq, oq, t.ks.mapIdx fun i k => nC k (Y i), hq, by simp, fun r hr => ?_, fun V hV => ⟨fun i r hr j v hv => ?_, fun i hi h' => ?_⟩⟩
  · obtain ⟨i, hi, rfl⟩ := List.getElem_of_mem hr
    rw [List.getElem_mapIdx]
    exact ⟨nC_len _ _, nC_one _ _⟩
  · obtain ⟨hi, rfl⟩ := List.getElem?_eq_some_iff.1 hr
    rw [List.getElem_mapIdx] at hv
    rw [List.length_mapIdx] at hi
    exact (hY i hi V hV).1 j v hv
  · rw [List.getElem_mapIdx]
    exact ⟨Y i, rfl, (hY i hi V hV).2⟩
/-- Operands are copied. -/
theorem copy_kids (w : World) (ty : TypeId) (bq oq cq : Nat) (rows : List (List Value)) (hl : ∀ r ∈ rows, r.length = 10 ∧ ∀ u ∈ r, u.oneCell' = true) (hn : 0 < rows.length ∧ rows.length ≤ 1000)
    (hc : ∀ (i : Nat) (r : List Value), rows[i]? = some r → ∀ (j : Nat) (v : Value), r[j]? = some v → w.cell? ⟨bq, oq + i * 10 + j, none⟩ = some v) :
    ∃ g cg w', (Builtin.append_ #[30, 30] ty #[.slice (some ⟨w.heap.size, 0, none⟩) 0 0, .slice (some ⟨bq, oq, none⟩) rows.length cq]).run Try.prog (w.alloc (.cells #[] 32)) = .ok (.slice (some ⟨g, 0, none⟩) rows.length cg) w' ∧ w.heap.size ≤ g ∧ rows.length ≤ cg ∧ g < w'.heap.size ∧ (∀ j, w'.frozen? ⟨g, j, none⟩ = false) ∧
      (∀ (i : Nat) (r : List Value), rows[i]? = some r → ∀ (j : Nat) (v : Value), r[j]? = some v → w'.cell? ⟨g, i * 10 + j, none⟩ = some v) ∧ RowKit.Below w.heap.size w w' := by
  have b1 := (Below.refl w.heap.size w).alloc (Nat.le_refl _) (.cells #[] 32)
  have hlen : ∀ r ∈ rows, r.length = 10 := fun r hr => (hl r hr).1
  have hb : bq < w.heap.size := by
    have h0 : (rows[0]'hn.1).length = 10 := (hl _ (List.getElem_mem hn.1)).1
    obtain ⟨v, hv⟩ : ∃ v, (rows[0]'hn.1)[0]? = some v := ⟨(rows[0]'hn.1)[0]'(by rw [h0]; decide), List.getElem?_eq_getElem _⟩
    exact World.block_lt_of_cell? _ _ (hc 0 _ (List.getElem?_eq_getElem hn.1) 0 v hv)
  obtain ⟨f1, f2⟩ := flat_at 10 (by omega) rows hlen (w := w.alloc (.cells #[] 32)) (b := bq) (o := oq) (fun i r hr j v hv => (b1.cell (p := ⟨bq, _, none⟩) hb).trans (hc i r hr j v hv))
  obtain ⟨q', c', w', hr, ho, hg, -⟩ := own_cat 30 32 10 Try.underlying30 info_Nd (by omega) (w.alloc (.cells #[] 32)) w.heap.size ty _ 0 0 [] (own_new w w.heap.size _ _ (Nat.le_refl _)) (some ⟨bq, oq, none⟩) rows.length cq rows.flatten (fun _ => ⟨bq, oq, rfl, f2⟩) f1 (fun u hu => by
    obtain ⟨r, hr, hu⟩ := List.mem_flatten.1 hu
    exact (hl r hr).2 u hu) (by omega) b1.size
  rw [Nat.zero_add] at hr ho
  rw [List.nil_append] at ho
  obtain ⟨g, cg, e, h1, h2, h3, h4, h5⟩ := own_rows ho hlen hn.1
  injection e with e1 _ e2
  subst e1 e2
  refine ⟨g, _, w', hr, h1, h2, h3, h4, h5, b1.trans ⟨hg.os, hg.tape, hg.output, hg.size, fun k hk => hg.block k (Nat.lt_of_lt_of_le hk b1.size) (fun e => ?_)⟩⟩
  simp only [Value.ownBlock, Option.some.injEq] at e
  omega
theorem ok_len {L : List Dc} {t : Nd} {u : U} (h : ofV vld L t = .ok u) : t.ks.length ≤ 3 := by
  obtain ⟨h1, -⟩ := ofV_ok h
  simp only [Bool.and_eq_true, form] at h1
  have h2 := (wf_ks h1.2.1).2.1
  cases t with
  | mk op pl nm n d u ks =>
    simp only [okNode, Bool.and_eq_true, decide_eq_true_eq] at h2
    have := h2.1
    simp only [Nd.ks]
    unfold arity at this
    split at this
    · omega
    · split at this
      · omega
      · split at this
        · omega
        · split at this <;> omega
theorem store_sl (w : World) (b o : Nat) (q : Option Addr) (n c : Nat) (v : Value) (h : w.cell? ⟨b, o, none⟩ = some v) (hf : w.frozen? ⟨b, o, none⟩ = false) : (Instr.storeAt 30 (.pointer (some ⟨b, o, none⟩)) (.slice q n c)).run Try.prog w = .ok () (w.setCell ⟨b, o, none⟩ (.slice q n c)) := by
  have ht : w.there b o (#[.slice q n c] : Array Value).size := fun j hj => by
    have : j = 0 := by simp at hj; omega
    subst this
    exact ⟨Option.isSome_iff_exists.2 ⟨_, h⟩, hf⟩
  go_simp
section
variable {P : Program} {ops : Array Oper} {rest : List Oper} {o : Oper} {a : Act} {w w' : World} {Q : Exit → Act → World → Prop} {t : TypeId} {v : Value}
theorem wl_slice0 (hgd : o.guard = none) (ho : o.op = .buildSlice t 0 #[]) (hr : (Instr.buildSlice t 0 #[]).run P w = .ok v w') (h : wpList P ops Q rest (a.put o.dst v) w') : wpList P ops Q (o :: rest) a w :=
  wpList_plain hgd fun _ hK => by
    unfold Oper.wp execOp
    simp only [ho, Sem.run_bind, Sem.run_pure, List.map_toArray, List.map_nil, hr]
    exact hK _ _ h
end
set_option maxRecDepth 100000 in
set_option maxHeartbeats 12000000 in
theorem replaces_law (L : List Dc) (t s : Nd) (hn : nin t) (hm : nin s) (p : Option Addr) (b off c : Nat) (x y : Kd) (a : Int) (ha : 0 ≤ a ∧ a ≤ 255) (w : World) (hS : SlR w p b off L.length 8 (L.map dC)) (hx : NdM w (fun _ => True) t x) (hy : NdM w (fun _ => True) s y) :
    Calls Try.prog 6 #[.slice p L.length c, nV t x, nV s y, .int .u8 a] w fun e w' => e = .returned (.bool true) ∧ RowKit.Below w.heap.size w w' := by
  obtain ⟨an, rfl⟩ := Int.eq_ofNat_of_zero_le ha.1
  have han : an ≤ 255 := by omega
  clear ha
  obtain ⟨ln, hln⟩ : ∃ l, l = nC t x := ⟨_, rfl⟩
  obtain ⟨lm, hlm⟩ : ∃ l, l = nC s y := ⟨_, rfl⟩
  have NT : NV w (fun _ => True) t ln := ⟨x, hln, hx⟩
  have NS : NV w (fun _ => True) s lm := ⟨y, hlm, hy⟩
  obtain ⟨bq, oq, rows, hq, hrl, hrows, hkr⟩ := kids_rows hx
  have HQ := Lib.hid hq
  have HRO := Lib.hid hrows
  have HKR := Lib.hid (fun V hV => (hkr V hV).1)
  obtain ⟨k, hk⟩ : ∃ k, k = an % t.ks.length := ⟨_, rfl⟩
  have hkn : 0 < t.ks.length → k < t.ks.length := fun h => by rw [hk]; exact Nat.mod_lt _ h
  have hk255 : k ≤ 255 := by rw [hk]; exact Nat.le_trans (Nat.mod_le _ _) han
  have KF1 := Lib.hid (fun V (hV : RowKit.Below w.heap.size w V) => few_nv t _ ln V (NT.bel hV))
  have KF2 := Lib.hid (fun V (hV : RowKit.Below w.heap.size w V) => few_nv s _ lm V (NS.bel hV))
  have KO1 := Lib.hid (fun V (hV : RowKit.Below w.heap.size w V) => of_nv L t hn p b off c _ ln V (hS.bel hV) (NT.bel hV))
  have KO3 := Lib.hid (fun V (hV : RowKit.Below w.heap.size w V) => of_nv L s hm p b off c _ lm V (hS.bel hV) (NS.bel hV))
  obtain ⟨tk, htk⟩ : ∃ tk : Nd, ∀ h : k < t.ks.length, tk = t.ks[k] := by
    by_cases h : k < t.ks.length
    · exact ⟨t.ks[k], fun _ => rfl⟩
    · exact ⟨t, fun h' => absurd h' h⟩
  have KO2 : Hid (∀ (h : k < t.ks.length) (h' : k < rows.length) V, RowKit.Below w.heap.size w V → Calls Try.prog 13 #[.slice p L.length c, .agg rows[k].toArray] V fun e w' => e = .returned (.tuple #[.agg (uC (gU (ofV vld L tk))).toArray, .int .i64 (gE (ofV vld L tk)), .int .i64 (gP (ofV vld L tk))]) ∧ RowKit.Below V.heap.size V w') := fun h h' V hV => by
    have hni := nin_kid hn k h
    rw [← htk h] at hni
    refine of_nv L tk hni p b off c (fun _ => True) _ V (hS.bel hV) ?_
    rw [htk h]
    exact (hkr V hV).2 k h h'
  have KOX := Lib.hid (fun V l (hV : RowKit.Below w.heap.size w V) (h : NV V (fun _ => True) (setK t k s) l) => of_nv L (setK t k s) (nin_setK hn hm) p b off c _ l V (hS.bel hV) h)
  have KFX := Lib.hid (fun V l (h : NV V (fun _ => True) (setK t k s) l) => form_nv (setK t k s) (nin_setK hn hm) _ l V h)
  have HG : Hid (k < t.ks.length → gE (ofV vld L t) = 0 → gE (ofV vld L tk) = 0 → gE (ofV vld L s) = 0 → gU (ofV vld L tk) = gU (ofV vld L s) → form vld (setK t k s) = true → ofV vld L (setK t k s) = .ok (gU (ofV vld L t))) := fun h h1 h2 h3 h4 h5 => by
    have g2 := gok h2
    have g3 := gok h3
    rw [← h4] at g3
    exact ofV_setK h (gok h1) (by rw [← htk h]; exact g2) g3 h5
  have HLN : Hid (gE (ofV vld L t) = 0 → t.ks.length ≤ 3) := fun h => ok_len (gok h)
  have HND : Hid (∀ V g cg, RowKit.Below w.heap.size w V → k < t.ks.length → g < V.heap.size → (∀ (i : Nat) (r : List Value), (rows.set k lm)[i]? = some r → ∀ (j : Nat) (v : Value), r[j]? = some v → V.cell? ⟨g, i * 10 + j, none⟩ = some v) → t.ks.length ≤ 3 → NV V (fun _ => True) (setK t k s) (ln.set 9 (.slice (some ⟨g, 0, none⟩) t.ks.length cg))) := fun V g cg hV h hg hc h3 =>
    ⟨⟨some ⟨g, 0, none⟩, cg⟩, by rw [hln]; exact nC_setK t x k s _ cg, nd_setK h hrl (fun i hi h' => (hkr V hV).2 i hi h') (NS.bel hV) (by omega) hg trivial hc⟩
  have hv1 : nV t x = .agg ln.toArray := by rw [hln]; rfl
  have hv2 : nV s y = .agg lm.toArray := by rw [hlm]; rfl
  have hl1 : ln.length = 10 := by rw [hln]; exact nC_len t x
  have hl2 : lm.length = 10 := by rw [hlm]; exact nC_len s y
  have h9 : ln[9]? = some (.slice x.q t.ks.length x.c) := by rw [hln]; exact nC_nine t x
  have H9 := Lib.hid h9
  have HO1 : Hid (∀ u ∈ ln, u.oneCell' = true) := by rw [hln]; exact nC_one t x
  have HO2 : Hid (∀ u ∈ lm, u.oneCell' = true) := by rw [hlm]; exact nC_one s y
  have ek : Int.tmod (an : Int) (t.ks.length : Int) = (k : Int) := by rw [hk]; exact (Int.ofNat_tmod an t.ks.length).symm
  rw [hv1, hv2]
  clear hv1 hv2 hln hlm hx hy hn hm NT NS htk h9 hk hq hrows hkr
  have hmx := hS.max
  clear hS
  generalize ofV vld L t = g1 at *
  generalize ofV vld L tk = g2 at *
  generalize ofV vld L s = g3 at *
  generalize ofV vld L (setK t k s) = gx at *
  generalize form vld (setK t k s) = fb at *
  generalize decide (0 ≤ left 30 400 t) = f1 at *
  generalize decide (0 ≤ left 30 400 s) = f2 at *
  generalize gE g1 = E1 at *
  generalize gE g2 = E2 at *
  generalize gE g3 = E3 at *
  generalize gP g1 = P1 at *
  generalize gP g2 = P2 at *
  generalize gP g3 = P3 at *
  generalize gU g1 = u1 at *
  generalize gU g2 = u2 at *
  generalize gU g3 = u3 at *
  generalize L.length = m at *
  generalize t.ks.length = n at *
  generalize x.q = xq at *
  generalize x.c = xc at *
  obtain ⟨W1, hW1⟩ : ∃ W1, w.alloc (.cells ln.toArray 32) = W1 := ⟨_, rfl⟩
  have a1 := (Below.refl w.heap.size w).alloc (Nat.le_refl _) (.cells ln.toArray 32)
  have x1 : BoxL W1 w.heap.size ln := by rw [← hW1]; exact box_new _ _ rfl
  rw [hW1] at a1
  have z1 : W1.heap.size = w.heap.size + 1 := by rw [← hW1]; simp
  obtain ⟨W2, hW2⟩ : ∃ W2, W1.alloc (.cells lm.toArray 32) = W2 := ⟨_, rfl⟩
  have a2 := (Below.refl W1.heap.size W1).alloc (Nat.le_refl _) (.cells lm.toArray 32)
  have x2 : BoxL W2 (w.heap.size + 1) lm := by rw [← hW2]; exact box_new _ _ z1
  rw [hW2] at a2
  have z2 : W2.heap.size = w.heap.size + 2 := by rw [← hW2]; simp; omega
  have hp1 : 0 < ln.length := by omega
  have hp2 : 0 < lm.length := by omega
  have X1 := Lib.hid (x1.bel hp1 a2)
  have X2 := Lib.hid x2
  have BB := Lib.hid (a1.trans (a2.mono (by omega)))
  clear x1 x2 a1 a2
  go_enter Try.func6, Try.ntmps6
  go_wp2_with fail
  clear hW1 hW2 z1
  refine (lhead_any _).mono ?_
  rintro _ V1 ⟨rfl, hb⟩
  replace BB := Lib.hid (BB.out.trans (hb.mono BB.out.size))
  replace X1 := Lib.hid (X1.out.bel hp1 hb)
  replace X2 := Lib.hid (X2.out.bel hp2 hb)
  clear hb
  by_cases hL : 20 < m
  · have hz : (20 : Int) < (m : Int) := by omega
    go_wp2_with fail
    go_ret
    exact ⟨rfl, BB.out⟩
  have hz : ¬ (20 : Int) < (m : Int) := by omega
  have hd : decide ((20 : Int) < (m : Int)) = false := decide_eq_false hz
  go_wp2_with ((with_reducible show wpList _ _ _ ({ dst := some 29, op := _, type := _, pos := _, after := _, guard := _ } :: _) _ _); refine wl_loadG (by first | rfl | (rw [hd]; rfl) | (simp [Region.wanted, yielded, hd]; done)) rfl rfl (load_row 32 10 (by kernel_rfl) (by kernel_rfl) _ _ ln hl1 (fun j v hv => (X1.out j v hv).1)) ?_; simp only [Act.put, List.setIfInBounds_toArray, List.set_cons_zero, List.set_cons_succ])
  refine (KF1.out _ BB.out).mono ?_
  rintro _ V2 ⟨rfl, hb⟩
  replace BB := Lib.hid (BB.out.trans (hb.mono BB.out.size))
  replace X1 := Lib.hid (X1.out.bel hp1 hb)
  replace X2 := Lib.hid (X2.out.bel hp2 hb)
  clear hb KF1
  cases f1 with
  | false =>
    go_wp2_with fail
    go_ret
    exact ⟨rfl, BB.out⟩
  | true =>
    go_wp2_with ((with_reducible show wpList _ _ _ ({ dst := some 34, op := _, type := _, pos := _, after := _, guard := _ } :: _) _ _); refine wl_loadG (by first | rfl | (rw [hd]; rfl) | (simp [Region.wanted, yielded, hd]; done)) rfl rfl (load_row 32 10 (by kernel_rfl) (by kernel_rfl) _ _ lm hl2 (fun j v hv => (X2.out j v hv).1)) ?_; simp only [Act.put, List.setIfInBounds_toArray, List.set_cons_zero, List.set_cons_succ])
    refine (KF2.out _ BB.out).mono ?_
    rintro _ V3 ⟨rfl, hb⟩
    replace BB := Lib.hid (BB.out.trans (hb.mono BB.out.size))
    replace X1 := Lib.hid (X1.out.bel hp1 hb)
    replace X2 := Lib.hid (X2.out.bel hp2 hb)
    clear hb KF2
    cases f2 with
    | false =>
      go_wp2_with fail
      go_ret
      exact ⟨rfl, BB.out⟩
    | true =>
      obtain ⟨c9, -⟩ := X1.out 9 _ H9.out
      by_cases hn0 : n = 0
      · subst hn0
        go_wp2_with fail
        go_ret
        exact ⟨rfl, BB.out⟩
      have hkl := hkn (by omega)
      have hqq := HQ.out (by omega)
      subst hqq
      have hnz : ¬ (n : Int) = 0 := by omega
      have hnb : ((n : Int) == 0) = false := beq_eq_false_iff_ne.2 hnz
      have ewk : IntKind.i64.wrap (k : Int) = (k : Int) := IntWalk.i64_in _ (by omega)
      have ewa : IntKind.i64.wrap (an : Int) = (an : Int) := IntWalk.i64_in _ (by omega)
      have kz : (k : Int) < (n : Int) := by omega
      have kz0 : ¬ (k : Int) < 0 := by omega
      go_wp2_with ((with_reducible show wpList _ _ _ ({ dst := some 53, op := _, type := _, pos := _, after := _, guard := _ } :: _) _ _); refine wl_loadP rfl rfl rfl (load_row 32 10 (by kernel_rfl) (by kernel_rfl) _ _ ln hl1 (fun j v hv => (X1.out j v hv).1)) ?_; simp only [Act.put, List.setIfInBounds_toArray, List.set_cons_zero, List.set_cons_succ])
      refine (KO1.out _ BB.out).mono ?_
      rintro _ V4 ⟨rfl, hb⟩
      clear c9
      replace BB := Lib.hid (BB.out.trans (hb.mono BB.out.size))
      replace X1 := Lib.hid (X1.out.bel hp1 hb)
      replace X2 := Lib.hid (X2.out.bel hp2 hb)
      clear hb KO1
      obtain ⟨c9, -⟩ := X1.out 9 _ H9.out
      obtain ⟨b11, hb11⟩ : ∃ b, b = V4.heap.size := ⟨_, rfl⟩
      go_wp2_with (first | ((with_reducible show wpList _ _ _ ({ dst := some 11, op := _, type := _, pos := _, after := _, guard := _ } :: _) _ _); refine wl_ubox (L := (uC u1)) rfl rfl rfl rfl rfl (by simp [uC, Value.oneCell']) rfl rfl ?_; intro V5 hb hs hx; replace BB := Lib.hid (BB.out.trans (hb.mono BB.out.size)); replace X1 := Lib.hid (X1.out.bel hp1 hb); replace X2 := Lib.hid (X2.out.bel hp2 hb); have X11 := Lib.hid hx; clear hb hx hs c9; obtain ⟨c9, -⟩ := X1.out 9 _ H9.out; simp only [Act.put, List.setIfInBounds_toArray, List.set_cons_zero, List.set_cons_succ]; rw [← hb11] at X11 ⊢; clear hb11) | ((with_reducible show wpList _ _ _ ({ dst := some 64, op := _, type := _, pos := _, after := _, guard := _ } :: _) _ _); refine wl_loadP rfl rfl rfl (load_rowAt 32 10 (by kernel_rfl) (by kernel_rfl) _ _ _ (rows[k]'(by omega)) ((HRO.out _ (List.getElem_mem _)).1) ((HKR.out _ BB.out) k _ (List.getElem?_eq_getElem (by omega)))) ?_; simp only [Act.put, List.setIfInBounds_toArray, List.set_cons_zero, List.set_cons_succ]))
      refine (KO2.out hkl (by omega) _ BB.out).mono ?_
      rintro _ V6 ⟨rfl, hb⟩
      clear c9
      replace BB := Lib.hid (BB.out.trans (hb.mono BB.out.size))
      replace X1 := Lib.hid (X1.out.bel hp1 hb)
      replace X2 := Lib.hid (X2.out.bel hp2 hb)
      replace X11 := Lib.hid (X11.out.bel (by simp [uC]) hb)
      clear hb KO2
      obtain ⟨b14, hb14⟩ : ∃ b, b = V6.heap.size := ⟨_, rfl⟩
      go_wp2_with (first | ((with_reducible show wpList _ _ _ ({ dst := some 14, op := _, type := _, pos := _, after := _, guard := _ } :: _) _ _); refine wl_ubox (L := (uC u2)) rfl rfl rfl rfl rfl (by simp [uC, Value.oneCell']) rfl rfl ?_; intro V7 hb hs hx; replace BB := Lib.hid (BB.out.trans (hb.mono BB.out.size)); replace X1 := Lib.hid (X1.out.bel hp1 hb); replace X2 := Lib.hid (X2.out.bel hp2 hb); replace X11 := Lib.hid (X11.out.bel (by simp [uC]) hb); have X14 := Lib.hid hx; clear hb hx hs; simp only [Act.put, List.setIfInBounds_toArray, List.set_cons_zero, List.set_cons_succ]; rw [← hb14] at X14 ⊢; clear hb14) | ((with_reducible show wpList _ _ _ ({ dst := some 71, op := _, type := _, pos := _, after := _, guard := _ } :: _) _ _); refine wl_loadP rfl rfl rfl (load_row 32 10 (by kernel_rfl) (by kernel_rfl) _ _ lm hl2 (fun j v hv => (X2.out j v hv).1)) ?_; simp only [Act.put, List.setIfInBounds_toArray, List.set_cons_zero, List.set_cons_succ]))
      refine (KO3.out _ BB.out).mono ?_
      rintro _ V8 ⟨rfl, hb⟩
      replace BB := Lib.hid (BB.out.trans (hb.mono BB.out.size))
      replace X1 := Lib.hid (X1.out.bel hp1 hb)
      replace X2 := Lib.hid (X2.out.bel hp2 hb)
      replace X11 := Lib.hid (X11.out.bel (by simp [uC]) hb)
      replace X14 := Lib.hid (X14.out.bel (by simp [uC]) hb)
      clear hb KO3
      obtain ⟨b17, hb17⟩ : ∃ b, b = V8.heap.size := ⟨_, rfl⟩
      by_cases hE1 : E1 = 0
      rotate_left
      · have hz1 : ¬ E1 = 0 := hE1
        go_wp2_with ((with_reducible show wpList _ _ _ ({ dst := some 17, op := _, type := _, pos := _, after := _, guard := _ } :: _) _ _); refine wl_ubox (L := (uC u3)) rfl rfl rfl rfl rfl (by simp [uC, Value.oneCell']) rfl rfl ?_; intro V9 hb hs hx; replace BB := Lib.hid (BB.out.trans (hb.mono BB.out.size)); replace X1 := Lib.hid (X1.out.bel hp1 hb); replace X2 := Lib.hid (X2.out.bel hp2 hb); replace X11 := Lib.hid (X11.out.bel (by simp [uC]) hb); replace X14 := Lib.hid (X14.out.bel (by simp [uC]) hb); have X17 := Lib.hid hx; clear hb hx hs; simp only [Act.put, List.setIfInBounds_toArray, List.set_cons_zero, List.set_cons_succ]; rw [← hb17] at X17 ⊢; clear hb17)
        go_ret
        exact ⟨rfl, BB.out⟩
      subst hE1
      by_cases hE2 : E2 = 0
      rotate_left
      · have hz2 : ¬ E2 = 0 := hE2
        go_wp2_with ((with_reducible show wpList _ _ _ ({ dst := some 17, op := _, type := _, pos := _, after := _, guard := _ } :: _) _ _); refine wl_ubox (L := (uC u3)) rfl rfl rfl rfl rfl (by simp [uC, Value.oneCell']) rfl rfl ?_; intro V9 hb hs hx; replace BB := Lib.hid (BB.out.trans (hb.mono BB.out.size)); replace X1 := Lib.hid (X1.out.bel hp1 hb); replace X2 := Lib.hid (X2.out.bel hp2 hb); replace X11 := Lib.hid (X11.out.bel (by simp [uC]) hb); replace X14 := Lib.hid (X14.out.bel (by simp [uC]) hb); have X17 := Lib.hid hx; clear hb hx hs; simp only [Act.put, List.setIfInBounds_toArray, List.set_cons_zero, List.set_cons_succ]; rw [← hb17] at X17 ⊢; clear hb17)
        go_ret
        exact ⟨rfl, BB.out⟩
      subst hE2
      by_cases hE3 : E3 = 0
      rotate_left
      · have hz3 : ¬ E3 = 0 := hE3
        go_wp2_with ((with_reducible show wpList _ _ _ ({ dst := some 17, op := _, type := _, pos := _, after := _, guard := _ } :: _) _ _); refine wl_ubox (L := (uC u3)) rfl rfl rfl rfl rfl (by simp [uC, Value.oneCell']) rfl rfl ?_; intro V9 hb hs hx; replace BB := Lib.hid (BB.out.trans (hb.mono BB.out.size)); replace X1 := Lib.hid (X1.out.bel hp1 hb); replace X2 := Lib.hid (X2.out.bel hp2 hb); replace X11 := Lib.hid (X11.out.bel (by simp [uC]) hb); replace X14 := Lib.hid (X14.out.bel (by simp [uC]) hb); have X17 := Lib.hid hx; clear hb hx hs; simp only [Act.put, List.setIfInBounds_toArray, List.set_cons_zero, List.set_cons_succ]; rw [← hb17] at X17 ⊢; clear hb17)
        go_ret
        exact ⟨rfl, BB.out⟩
      subst hE3
      by_cases huu : u2 = u3
      rotate_left
      · have hdu : decide (u2 = u3) = false := decide_eq_false huu
        go_wp2_with (first | ((with_reducible show wpList _ _ _ ({ dst := some 17, op := _, type := _, pos := _, after := _, guard := _ } :: _) _ _); refine wl_ubox (L := (uC u3)) rfl rfl rfl rfl rfl (by simp [uC, Value.oneCell']) rfl rfl ?_; intro V9 hb hs hx; replace BB := Lib.hid (BB.out.trans (hb.mono BB.out.size)); replace X1 := Lib.hid (X1.out.bel hp1 hb); replace X2 := Lib.hid (X2.out.bel hp2 hb); replace X11 := Lib.hid (X11.out.bel (by simp [uC]) hb); replace X14 := Lib.hid (X14.out.bel (by simp [uC]) hb); have X17 := Lib.hid hx; clear hb hx hs; simp only [Act.put, List.setIfInBounds_toArray, List.set_cons_zero, List.set_cons_succ]; rw [← hb17] at X17 ⊢; clear hb17) | ((with_reducible show wpList _ _ _ ({ dst := some 87, op := _, type := _, pos := _, after := _, guard := _ } :: _) _ _); refine wl_loadG (by first | rfl | (rw [hd]; rfl) | (simp [Region.wanted, yielded, hd]; done)) rfl rfl (load_row 29 4 (by kernel_rfl) (by kernel_rfl) _ _ (uC u2) rfl (fun j v hv => (X14.out j v hv).1)) ?_; simp only [Act.put, List.setIfInBounds_toArray, List.set_cons_zero, List.set_cons_succ]) | ((with_reducible show wpList _ _ _ ({ dst := some 88, op := _, type := _, pos := _, after := _, guard := _ } :: _) _ _); refine wl_loadG (by first | rfl | (rw [hd]; rfl) | (simp [Region.wanted, yielded, hd]; done)) rfl rfl (load_row 29 4 (by kernel_rfl) (by kernel_rfl) _ _ (uC u3) rfl (fun j v hv => (X17.out j v hv).1)) ?_; simp only [Act.put, List.setIfInBounds_toArray, List.set_cons_zero, List.set_cons_succ]) | ((with_reducible show wpList _ _ _ ({ dst := some 89, op := _, type := _, pos := _, after := _, guard := _ } :: _) _ _); refine wl_ex (by first | rfl | (simp [Region.wanted, yielded]; done)) (ex_neU (u := u2) (v := u3) rfl rfl rfl _) ?_; simp only [Act.put, List.setIfInBounds_toArray, List.set_cons_zero, List.set_cons_succ]; rw [hdu]))
        go_ret
        exact ⟨rfl, BB.out⟩
      have hdu : decide (u2 = u3) = true := decide_eq_true huu
      have h3 := HLN.out (by first | rfl | trivial)
      have HGX : Hid (fb = true → gx = .ok u1) := fun hf => HG.out hkl (by first | rfl | trivial) (by first | rfl | trivial) (by first | rfl | trivial) huu hf
      clear HG HLN huu
      go_wp2_with (first | ((with_reducible show wpList _ _ _ ({ dst := some 17, op := _, type := _, pos := _, after := _, guard := _ } :: _) _ _); refine wl_ubox (L := (uC u3)) rfl rfl rfl rfl rfl (by simp [uC, Value.oneCell']) rfl rfl ?_; intro V9 hb hs hx; replace BB := Lib.hid (BB.out.trans (hb.mono BB.out.size)); replace X1 := Lib.hid (X1.out.bel hp1 hb); replace X2 := Lib.hid (X2.out.bel hp2 hb); replace X11 := Lib.hid (X11.out.bel (by simp [uC]) hb); replace X14 := Lib.hid (X14.out.bel (by simp [uC]) hb); have X17 := Lib.hid hx; clear hb hx hs; simp only [Act.put, List.setIfInBounds_toArray, List.set_cons_zero, List.set_cons_succ]; rw [← hb17] at X17 ⊢; clear hb17) | ((with_reducible show wpList _ _ _ ({ dst := some 87, op := _, type := _, pos := _, after := _, guard := _ } :: _) _ _); refine wl_loadG (by first | rfl | (rw [hd]; rfl) | (simp [Region.wanted, yielded, hd]; done)) rfl rfl (load_row 29 4 (by kernel_rfl) (by kernel_rfl) _ _ (uC u2) rfl (fun j v hv => (X14.out j v hv).1)) ?_; simp only [Act.put, List.setIfInBounds_toArray, List.set_cons_zero, List.set_cons_succ]) | ((with_reducible show wpList _ _ _ ({ dst := some 88, op := _, type := _, pos := _, after := _, guard := _ } :: _) _ _); refine wl_loadG (by first | rfl | (rw [hd]; rfl) | (simp [Region.wanted, yielded, hd]; done)) rfl rfl (load_row 29 4 (by kernel_rfl) (by kernel_rfl) _ _ (uC u3) rfl (fun j v hv => (X17.out j v hv).1)) ?_; simp only [Act.put, List.setIfInBounds_toArray, List.set_cons_zero, List.set_cons_succ]) | ((with_reducible show wpList _ _ _ ({ dst := some 89, op := _, type := _, pos := _, after := _, guard := _ } :: _) _ _); refine wl_ex (by first | rfl | (simp [Region.wanted, yielded]; done)) (ex_neU (u := u2) (v := u3) rfl rfl rfl _) ?_; simp only [Act.put, List.setIfInBounds_toArray, List.set_cons_zero, List.set_cons_succ]; rw [hdu]) | ((with_reducible show wpList _ _ _ ({ dst := some 92, op := _, type := _, pos := _, after := _, guard := _ } :: _) _ _); refine wl_loadP rfl rfl rfl (load_row 32 10 (by kernel_rfl) (by kernel_rfl) _ _ ln hl1 (fun j v hv => (X1.out j v hv).1)) ?_; simp only [Act.put, List.setIfInBounds_toArray, List.set_cons_zero, List.set_cons_succ]) | ((with_reducible show wpList _ _ _ ({ dst := some 20, op := _, type := _, pos := _, after := _, guard := _ } :: _) _ _); obtain ⟨b20, hb20⟩ : ∃ b, b = V9.heap.size := ⟨_, rfl⟩; have q20 : w.heap.size ≤ b20 := (by rw [hb20]; exact BB.out.size); have p1 : w.heap.size + 1 < b20 := (by rw [hb20]; exact X2.out.lt hp2); have p11 : b11 < b20 := (by rw [hb20]; exact X11.out.lt (by simp [uC])); refine wl_nbox (L := ln) rfl rfl rfl rfl hl1 HO1.out rfl rfl ?_; intro VA hb hs hx; rw [← hb20] at hx ⊢; replace BB := Lib.hid (BB.out.trans (hb.mono BB.out.size)); replace X1 := Lib.hid (X1.out.bel hp1 hb); replace X2 := Lib.hid (X2.out.bel hp2 hb); replace X11 := Lib.hid (X11.out.bel (by simp [uC]) hb); replace X14 := Lib.hid (X14.out.bel (by simp [uC]) hb); replace X17 := Lib.hid (X17.out.bel (by simp [uC]) hb); have X20 := Lib.hid hx; clear hb hx hs hb20; simp only [Act.put, List.setIfInBounds_toArray, List.set_cons_zero, List.set_cons_succ]) | ((with_reducible show wpList _ _ _ ({ dst := some 93, op := _, type := _, pos := _, after := _, guard := _ } :: _) _ _); clear X14 X17; have hcp := copy_kids VA 30 bq oq xc rows HRO.out ⟨(by omega), (by omega)⟩ (HKR.out _ BB.out); rw [hrl] at hcp; obtain ⟨g, cg, VC, hrun, hg1, hg2, hg3, hg4, hg5, hbc⟩ := hcp; have q20g : b20 < g := Nat.lt_of_lt_of_le (X20.out.lt hp1) hg1; refine wl_slice0 rfl rfl (slice0_N VA) ?_; simp only [Act.put, List.setIfInBounds_toArray, List.set_cons_zero, List.set_cons_succ]; have ba := (Below.refl VA.heap.size VA).alloc (Nat.le_refl _) (.cells #[] 32); have X1b := X1.out.bel hp1 ba; obtain ⟨c9, -⟩ := X1b 9 _ H9.out; clear X1b ba; generalize VA.alloc (.cells #[] 32) = VB at *) | ((with_reducible show wpList _ _ _ ({ dst := some 96, op := _, type := _, pos := _, after := _, guard := _ } :: _) _ _); refine wl_app _ _ rfl rfl rfl rfl hrun ?_; simp only [Act.put, List.setIfInBounds_toArray, List.set_cons_zero, List.set_cons_succ]; replace BB := Lib.hid (BB.out.trans (hbc.mono BB.out.size)); replace X2 := Lib.hid (X2.out.bel hp2 hbc); replace X11 := Lib.hid (X11.out.bel (by simp [uC]) hbc); replace X20 := Lib.hid (X20.out.bel hp1 hbc); clear hbc c9 hrun X1 hg1; obtain ⟨d9, e9⟩ := X20.out 9 _ H9.out) | ((with_reducible show wpList _ _ _ ({ dst := none, op := Op.store _ (Operand.tmp 97) _, type := _, pos := _, after := _, guard := _ } :: _) _ _); refine wl_store rfl rfl rfl rfl (store_sl VC b20 9 _ _ _ _ d9 e9) ?_; have hk := (Kept.refl b20 VC).setCell 9 none (.slice (some ⟨g, 0, none⟩) n cg); replace BB := Lib.hid (below_kept BB.out hk q20); replace X2 := Lib.hid (X2.out.call hp2 hk (by omega)); replace X11 := Lib.hid (X11.out.call (by simp [uC]) hk (by omega)); replace X20 := Lib.hid (X20.out.set 9 (.slice (some ⟨g, 0, none⟩) n cg)); have HG5 : Hid (∀ (i : Nat) (r : List Value), rows[i]? = some r → ∀ (j : Nat) (v : Value), r[j]? = some v → (VC.setCell ⟨b20, 9, none⟩ (.slice (some ⟨g, 0, none⟩) n cg)).cell? ⟨g, i * 10 + j, none⟩ = some v) := fun i r hr j v hv => (World.cell?_of_block (w := VC) (a := ⟨g, i * 10 + j, none⟩) (hk.block g hg3 (by omega))).trans (hg5 i r hr j v hv); have HG4 : Hid (∀ j, (VC.setCell ⟨b20, 9, none⟩ (.slice (some ⟨g, 0, none⟩) n cg)).frozen? ⟨g, j, none⟩ = false) := fun j => (World.frozen?_of_block (w := VC) (a := ⟨g, j, none⟩) (hk.block g hg3 (by omega))).trans (hg4 j); replace hg3 := Nat.lt_of_lt_of_le hg3 hk.size; clear hk hg5 hg4 d9 e9; simp only [Act.put]; generalize VC.setCell ⟨b20, 9, none⟩ (.slice (some ⟨g, 0, none⟩) n cg) = VD at *; have hl20 : (ln.set 9 (.slice (some ⟨g, 0, none⟩) n cg)).length = 10 := (by rw [List.length_set]; exact hl1); obtain ⟨d9, -⟩ := X20.out 9 _ (List.getElem?_set_self (by omega))) | ((with_reducible show wpList _ _ _ ({ dst := none, op := Op.store _ (Operand.tmp 102) _, type := _, pos := _, after := _, guard := _ } :: _) _ _); refine wl_store rfl rfl rfl rfl (store_at 32 10 (by kernel_rfl) VD g (k * 10) lm hl2 (fun j hj => Option.isSome_iff_exists.2 ⟨_, HG5.out k _ (List.getElem?_eq_getElem (by omega)) j _ (List.getElem?_eq_getElem (by rw [(HRO.out _ (List.getElem_mem _)).1]; exact hj))⟩) HG4.out HO2.out) ?_; have hk := kept_setCells (b := g) (w := VD) lm (k * 10) VD (Kept.refl _ _); have hset := rows_set (n := 10) (by omega) hl2 (fun l hl => (HRO.out l hl).1) HG5.out (k := k); replace BB := Lib.hid (below_kept BB.out hk (by omega)); replace X11 := Lib.hid (X11.out.call (by simp [uC]) hk (by omega)); replace X20 := Lib.hid (X20.out.call (by omega) hk (by omega)); replace hg3 := Nat.lt_of_lt_of_le hg3 hk.size; have NX := Lib.hid (HND.out _ g cg BB.out hkl hg3 hset h3); clear hk hset HG4 HG5 d9 X2; simp only [Act.put]; generalize VD.setCells g (k * 10) lm = VE at *; generalize ln.set 9 (.slice (some ⟨g, 0, none⟩) n cg) = lx at *) | ((with_reducible show wpList _ _ _ ({ dst := some 101, op := _, type := _, pos := _, after := _, guard := _ } :: _) _ _); refine wl_loadP rfl rfl rfl (load_row 32 10 (by kernel_rfl) (by kernel_rfl) _ _ lm hl2 (fun j v hv => (X2.out j v hv).1)) ?_; simp only [Act.put, List.setIfInBounds_toArray, List.set_cons_zero, List.set_cons_succ]) | ((with_reducible show wpList _ _ _ ({ dst := some 105, op := _, type := _, pos := _, after := _, guard := _ } :: _) _ _); refine wl_loadP rfl rfl rfl (load_row 32 10 (by kernel_rfl) (by kernel_rfl) _ _ lx hl20 (fun j v hv => (X20.out j v hv).1)) ?_; simp only [Act.put, List.setIfInBounds_toArray, List.set_cons_zero, List.set_cons_succ]))
      cases fb with
      | false =>
        refine (KOX.out _ lx BB.out NX.out).mono ?_
        rintro _ VF ⟨he, hb⟩
        clear HGX
        subst he
        replace BB := Lib.hid (BB.out.trans (hb.mono BB.out.size))
        replace X11 := Lib.hid (X11.out.bel (by simp [uC]) hb)
        replace X20 := Lib.hid (X20.out.bel (by omega) hb)
        replace NX := Lib.hid (NX.out.bel hb)
        clear hb KOX
        go_wp2_with (first | ((with_reducible show wpList _ _ _ ({ dst := some 21, op := _, type := _, pos := _, after := _, guard := _ } :: _) _ _); refine wl_ubox (L := (uC (gU gx))) rfl rfl rfl rfl rfl (by simp [uC, Value.oneCell']) rfl rfl ?_; intro VG hb hs hx; obtain ⟨b21, hb21⟩ : ∃ b, b = VF.heap.size := ⟨_, rfl⟩; rw [← hb21] at hx ⊢; clear hb21; replace BB := Lib.hid (BB.out.trans (hb.mono BB.out.size)); replace X11 := Lib.hid (X11.out.bel (by simp [uC]) hb); replace X20 := Lib.hid (X20.out.bel (by omega) hb); replace NX := Lib.hid (NX.out.bel hb); have X21 := Lib.hid hx; clear hb hx hs; simp only [Act.put, List.setIfInBounds_toArray, List.set_cons_zero, List.set_cons_succ]) | ((with_reducible show wpList _ _ _ ({ dst := some 112, op := _, type := _, pos := _, after := _, guard := _ } :: _) _ _); refine wl_loadG (by first | rfl | (simp [Region.wanted, yielded]; done)) rfl rfl (load_row 32 10 (by kernel_rfl) (by kernel_rfl) _ _ lx hl20 (fun j v hv => (X20.out j v hv).1)) ?_; simp only [Act.put, List.setIfInBounds_toArray, List.set_cons_zero, List.set_cons_succ]))
        refine (KFX.out _ lx NX.out).mono ?_
        rintro _ VH ⟨rfl, hb⟩
        replace BB := Lib.hid (BB.out.trans (hb.mono BB.out.size))
        replace X11 := Lib.hid (X11.out.bel (by simp [uC]) hb)
        replace X20 := Lib.hid (X20.out.bel (by omega) hb)
        replace NX := Lib.hid (NX.out.bel hb)
        replace X21 := Lib.hid (X21.out.bel (by simp [uC]) hb)
        clear hb KFX
        go_wp2_with fail
        go_ret
        exact ⟨rfl, BB.out⟩
      | true =>
        have hgx := HGX.out (by first | rfl | trivial)
        subst hgx
        refine (KOX.out _ lx BB.out NX.out).mono ?_
        rintro _ VF ⟨he, hb⟩
        clear HGX
        replace he : _ = Ending.returned (.tuple #[.agg (uC u1).toArray, .int .i64 0, .int .i64 0]) := he
        subst he
        replace BB := Lib.hid (BB.out.trans (hb.mono BB.out.size))
        replace X11 := Lib.hid (X11.out.bel (by simp [uC]) hb)
        replace X20 := Lib.hid (X20.out.bel (by omega) hb)
        replace NX := Lib.hid (NX.out.bel hb)
        clear hb KOX
        go_wp2_with (first | ((with_reducible show wpList _ _ _ ({ dst := some 21, op := _, type := _, pos := _, after := _, guard := _ } :: _) _ _); refine wl_ubox (L := (uC u1)) rfl rfl rfl rfl rfl (by simp [uC, Value.oneCell']) rfl rfl ?_; intro VG hb hs hx; obtain ⟨b21, hb21⟩ : ∃ b, b = VF.heap.size := ⟨_, rfl⟩; rw [← hb21] at hx ⊢; clear hb21; replace BB := Lib.hid (BB.out.trans (hb.mono BB.out.size)); replace X11 := Lib.hid (X11.out.bel (by simp [uC]) hb); replace X20 := Lib.hid (X20.out.bel (by omega) hb); replace NX := Lib.hid (NX.out.bel hb); have X21 := Lib.hid hx; clear hb hx hs; simp only [Act.put, List.setIfInBounds_toArray, List.set_cons_zero, List.set_cons_succ]) | ((with_reducible show wpList _ _ _ ({ dst := some 112, op := _, type := _, pos := _, after := _, guard := _ } :: _) _ _); refine wl_loadG (by first | rfl | (simp [Region.wanted, yielded]; done)) rfl rfl (load_row 32 10 (by kernel_rfl) (by kernel_rfl) _ _ lx hl20 (fun j v hv => (X20.out j v hv).1)) ?_; simp only [Act.put, List.setIfInBounds_toArray, List.set_cons_zero, List.set_cons_succ]))
        refine (KFX.out _ lx NX.out).mono ?_
        rintro _ VH ⟨rfl, hb⟩
        replace BB := Lib.hid (BB.out.trans (hb.mono BB.out.size))
        replace X11 := Lib.hid (X11.out.bel (by simp [uC]) hb)
        replace X20 := Lib.hid (X20.out.bel (by omega) hb)
        replace NX := Lib.hid (NX.out.bel hb)
        replace X21 := Lib.hid (X21.out.bel (by simp [uC]) hb)
        clear hb KFX
        go_wp2_with (first | ((with_reducible show wpList _ _ _ ({ dst := some 119, op := _, type := _, pos := _, after := _, guard := _ } :: _) _ _); refine wl_loadG (by first | rfl | (rw [hd]; rfl) | (simp [Region.wanted, yielded, hd]; done)) rfl rfl (load_row 29 4 (by kernel_rfl) (by kernel_rfl) _ _ (uC u1) rfl (fun j v hv => (X21.out j v hv).1)) ?_; simp only [Act.put, List.setIfInBounds_toArray, List.set_cons_zero, List.set_cons_succ]) | ((with_reducible show wpList _ _ _ ({ dst := some 120, op := _, type := _, pos := _, after := _, guard := _ } :: _) _ _); refine wl_loadG (by first | rfl | (rw [hd]; rfl) | (simp [Region.wanted, yielded, hd]; done)) rfl rfl (load_row 29 4 (by kernel_rfl) (by kernel_rfl) _ _ (uC u1) rfl (fun j v hv => (X11.out j v hv).1)) ?_; simp only [Act.put, List.setIfInBounds_toArray, List.set_cons_zero, List.set_cons_succ]) | ((with_reducible show wpList _ _ _ ({ dst := some 121, op := _, type := _, pos := _, after := _, guard := _ } :: _) _ _); refine wl_ex (by first | rfl | (simp [Region.wanted, yielded]; done)) (ex_eqU (u := u1) (v := u1) rfl rfl rfl _) ?_; simp only [Act.put, List.setIfInBounds_toArray, List.set_cons_zero, List.set_cons_succ]; (first | rw [decide_eq_true (show u1 = u1 from rfl)] | simp only [decide_true] | skip)))
        go_ret
        exact ⟨rfl, BB.out⟩
end Go.Proofs.Ytjifiijgghpniaa
