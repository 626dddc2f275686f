/- Texts on units: UMap -/
import Derived.Test.YtoaonficdkgfiaaY01
namespace Go.Proofs.Ytoaonficdkgfiaa
open Go.RowKit Un MapKept

variable {κ : Type}
/-- Block mb holds a map: what it answers. -/
def MapF (key : κ → Value) (d : TypeDesc) (w : World) (mb : Nat) (f : κ → Option Value) : Prop :=
 ∃ es clock, w.heap[mb]? = some (.map es clock) ∧ (∀ x ∈ es.toList, IsKey d x.key) ∧ (es.toList.map (·.key)).Nodup ∧ ∀ k v, f k = some v ↔ ∃ e ∈ es.toList, e.key = key k ∧ e.val = v
def updF [DecidableEq κ] (f : κ → Option Value) (k : κ) (v : Value) : κ → Option Value := fun x => if x = k then some v else f x
theorem MapF.lt {key : κ → Value} {d : TypeDesc} {w : World} {mb : Nat} {f : κ → Option Value} (h : MapF key d w mb f) : mb < w.heap.size := by
 obtain ⟨es, c, h, -⟩ := h
 exact (Array.getElem?_eq_some_iff.1 h).1
theorem MapF.of {key : κ → Value} {d : TypeDesc} {w w1 : World} {mb : Nat} {f : κ → Option Value} (h : MapF key d w mb f) (hb : w1.heap[mb]? = w.heap[mb]?) : MapF key d w1 mb f := by
 obtain ⟨es, c, h, h2⟩ := h
 exact ⟨es, c, hb.trans h, h2⟩
theorem MapF.bel {key : κ → Value} {d : TypeDesc} {w w1 : World} {mb : Nat} {f : κ → Option Value} (h : MapF key d w mb f) (hB : RowKit.Below w.heap.size w w1) : MapF key d w1 mb f := h.of (hB.block mb h.lt)
theorem MapF.new (key : κ → Value) (d : TypeDesc) (w : World) : MapF key d (w.alloc (.map #[] 0)) w.heap.size (fun _ => none) := ⟨#[], 0, (heap_alloc w _).1, by simp, by simp, by simp⟩
theorem find_in (d : TypeDesc) (es : List MapEntry) (k : Value) (hk : IsKey d k) (hks : ∀ x ∈ es, IsKey d x.key) (hn : (es.map (·.key)).Nodup) (v : Value) (he : ∃ e ∈ es, e.key = k ∧ e.val = v) : ∃ j e, Instr.findNow d k es 0 = some (some (j, v)) ∧ es[j]? = some e ∧ e.key = k := by
 obtain ⟨e0, h0, h1, h2⟩ := he
 rcases findNow_spec hk es 0 hks with ⟨a, b⟩ | ⟨j, e, a, b, c⟩
 ·exact absurd h1 (b e0 h0)
 ·have : e = e0 := by
   obtain ⟨i, hi⟩ := List.getElem?_of_mem h0
   have hij : j = i := by
    have hj1 := (List.getElem?_eq_some_iff.1 b).1
    refine (List.getElem?_inj (l := es.map (·.key)) (by simpa using hj1) hn).1 ?_
    rw [List.getElem?_map, List.getElem?_map, b, hi, Option.map_some, Option.map_some, c, h1]
   subst hij
   rw [b] at hi; exact Option.some.inj hi
  subst this
  exact ⟨j, e, by rw [a, h2, Nat.zero_add], b, c⟩
theorem find_no (d : TypeDesc) (es : List MapEntry) (k : Value) (hk : IsKey d k) (hks : ∀ x ∈ es, IsKey d x.key) (he : ¬ ∃ v, ∃ e ∈ es, e.key = k ∧ e.val = v) : Instr.findNow d k es 0 = some none ∧ ∀ x ∈ es, x.key ≠ k := by
 rcases findNow_spec hk es 0 hks with ⟨a, b⟩ | ⟨j, e, a, b, c⟩
 ·exact ⟨a, b⟩
 ·exact absurd ⟨e.val, e, List.mem_of_getElem? b, c, rfl⟩ he
section
variable [DecidableEq κ] {P : Program} {key : κ → Value} {d : TypeDesc} {w : World} {mb : Nat} {f : κ → Option Value} {T kt et : TypeId}
omit [DecidableEq κ] in
theorem MapF.ask (h : MapF key d w mb f) (hT : P.underlying T = some (.map kt et)) (hd : P.underlying kt = some d) (k : κ) (hk : IsKey d (key k)) (ok : Bool) (z : Value) (hz : (zeroValue et).run P w = .ok z w) :
  (Instr.lookup T (.map (some mb)) (key k) ok).run P w = .ok (if ok then .tuple #[(f k).getD z, .bool (f k).isSome] else (f k).getD z) w := by
 obtain ⟨es, c, hb, hks, hn, hf⟩ := h
 cases hfk : f k with
 | some v =>
  obtain ⟨j, e, h1, -, -⟩ := find_in d es.toList (key k) hk hks hn v ((hf k v).1 hfk)
  simp only [Instr.lookup, Sem.run_bind, run_underlying hT, Result.andThen, MapKept.run_getObj_map hb, Sem.run_pure, run_checkKey hd hk, run_findKey hd h1]
  cases ok <;> simp
 | none =>
  have hno : ¬ ∃ v, ∃ e ∈ es.toList, e.key = key k ∧ e.val = v := by
   rintro ⟨v, he⟩
   rw [(hf k v).2 he] at hfk
   cases hfk
  obtain ⟨h1, -⟩ := find_no d es.toList (key k) hk hks hno
  simp only [Instr.lookup, Sem.run_bind, run_underlying hT, Result.andThen, MapKept.run_getObj_map hb, Sem.run_pure, run_checkKey hd hk, run_findKey hd h1, hz]
  cases ok <;> simp
theorem MapF.update (h : MapF key d w mb f) (hT : P.underlying T = some (.map kt et)) (hd : P.underlying kt = some d) (k : κ) (hk : IsKey d (key k)) (hinj : ∀ x, key x = key k → x = k) (v : Value) :
  ∃ o, (Instr.mapUpdate T (.map (some mb)) (key k) v).run P w = .ok () { w with heap := w.heap.setIfInBounds mb o } ∧ MapF key d { w with heap := w.heap.setIfInBounds mb o } mb (updF f k v) := by
 obtain ⟨es, c, hb, hks, hn, hf⟩ := h
 by_cases he : ∃ u, ∃ e ∈ es.toList, e.key = key k ∧ e.val = u
 ·obtain ⟨u, he⟩ := he
  obtain ⟨j, e, h1, h2, h3⟩ := find_in d es.toList (key k) hk hks hn u he
  have hj : es[j]? = some e := by simpa using h2
  refine ⟨.map (es.modify j fun e => { e with key := key k, val := v }) c, ?_, _, _, (heap_set hb).1, ?_, ?_, ?_⟩
  ·simp [Instr.mapUpdate, run_underlying hT, MapKept.run_getObj_map hb, run_checkKey hd hk, run_findKey hd h1, hj, h3, run_keyThatStays hk, run_setObj_map _ hb, Result.andThen]
  ·exact isKey_modify hks _ _ (fun e' he' => by rw [hj] at he'; cases he'; exact h3.symm)
  ·rw [modify_keys j _ (fun e' he' => by rw [hj] at he'; cases he'; exact h3.symm)]; exact hn
  ·intro k' v'
   have hm : ∀ e', e' ∈ (es.modify j fun e => { e with key := key k, val := v }).toList ↔ (e' = { e with key := key k, val := v } ∨ (e' ∈ es.toList ∧ e'.key ≠ key k)) := by
    intro e'
    rw [Array.mem_toList_iff, Array.mem_iff_getElem?]
    constructor
    ·rintro ⟨i, hi⟩
     rw [Array.getElem?_modify] at hi
     split at hi
     ·rename_i hij; subst hij
      rw [hj] at hi
      exact .inl (Option.some.inj hi).symm
     ·rename_i hij
      refine .inr ⟨by rw [Array.mem_toList_iff]; exact Array.mem_of_getElem? hi, fun hk' => hij ?_⟩
      have hj1 := (Array.getElem?_eq_some_iff.1 hj).1
      refine (List.getElem?_inj (l := es.toList.map (·.key)) (by simpa using hj1) hn).1 ?_
      rw [List.getElem?_map, List.getElem?_map, Array.getElem?_toList, Array.getElem?_toList, hj, hi, Option.map_some, Option.map_some, h3, hk']
    ·rintro (rfl | ⟨h4, h5⟩)
     ·exact ⟨j, by rw [Array.getElem?_modify, if_pos rfl, hj]; rfl⟩
     ·obtain ⟨i, hi⟩ := List.getElem?_of_mem h4
      rw [Array.getElem?_toList] at hi
      refine ⟨i, ?_⟩
      rw [Array.getElem?_modify]
      split
      ·rename_i hij; subst hij
       rw [hj] at hi; cases hi
       exact absurd h3 h5
      ·exact hi
   unfold updF
   by_cases hkk : k' = k
   ·subst hkk
    rw [if_pos rfl]
    constructor
    ·intro e1; cases e1; exact ⟨_, (hm _).2 (.inl rfl), rfl, rfl⟩
    ·rintro ⟨e', h4, h5, h6⟩
     rcases (hm _).1 h4 with rfl | h7
     ·rw [← h6]
     ·exact absurd h5 h7.2
   ·rw [if_neg hkk, hf]
    constructor
    ·rintro ⟨e', h4, h5, h6⟩; exact ⟨e', (hm _).2 (.inr ⟨h4, fun h7 => hkk (hinj k' (h5.symm.trans h7))⟩), h5, h6⟩
    ·rintro ⟨e', h4, h5, h6⟩
     rcases (hm _).1 h4 with rfl | h7
     ·exact absurd (hinj k' h5.symm) hkk
     ·exact ⟨e', h7.1, h5, h6⟩
 ·obtain ⟨h1, h2⟩ := find_no d es.toList (key k) hk hks he
  refine ⟨.map (es.push { key := key k, val := v, born := c }) (c + 1), ?_, _, _, (heap_set hb).1, ?_, ?_, ?_⟩
  ·simp [Instr.mapUpdate, run_underlying hT, MapKept.run_getObj_map hb, run_checkKey hd hk, run_findKey hd h1, run_setObj_map _ hb, Result.andThen]
  ·intro x hx
   simp only [Array.toList_push, List.mem_append, List.mem_singleton] at hx
   rcases hx with hx | rfl
   ·exact hks x hx
   ·exact hk
  ·rw [Array.toList_push, List.map_append, List.nodup_append]
   refine ⟨hn, by simp, ?_⟩
   intro a ha b hb
   obtain ⟨x, hx, rfl⟩ := List.mem_map.1 ha
   simp only [List.map_cons, List.map_nil, List.mem_singleton] at hb
   subst hb
   exact h2 x hx
  ·intro k' v'
   unfold updF
   simp only [Array.toList_push, List.mem_append, List.mem_singleton]
   by_cases hkk : k' = k
   ·subst hkk
    rw [if_pos rfl]
    constructor
    ·intro e1; cases e1; exact ⟨_, .inr rfl, rfl, rfl⟩
    ·rintro ⟨e', h4 | rfl, h5, h6⟩
     ·exact absurd h5 (h2 e' h4)
     ·rw [← h6]
   ·rw [if_neg hkk, hf]
    constructor
    ·rintro ⟨e', h4, h5, h6⟩; exact ⟨e', .inl h4, h5, h6⟩
    ·rintro ⟨e', h4 | rfl, h5, h6⟩
     ·exact ⟨e', h4, h5, h6⟩
     ·exact absurd (hinj k' h5.symm) hkk
end
theorem kept_set {w w1 : World} {mb : Nat} (h : Kept mb w w1) (o : Obj) : Kept mb w { w1 with heap := w1.heap.setIfInBounds mb o } :=
 ⟨h.os, h.tape, h.output, by simpa using h.size, fun k hk hn => (by simp [Ne.symm hn] : (w1.heap.setIfInBounds mb o)[k]? = w1.heap[k]?).trans (h.block k hk hn)⟩
theorem below_set {B : Nat} {w w1 : World} {mb : Nat} (h : RowKit.Below B w w1) (hb : B ≤ mb) (o : Obj) : RowKit.Below B w { w1 with heap := w1.heap.setIfInBounds mb o } :=
 ⟨h.os, h.tape, h.output, by simpa using h.size, fun k hk => (by simp [show mb ≠ k by omega] : (w1.heap.setIfInBounds mb o)[k]? = w1.heap[k]?).trans (h.block k hk)⟩
/-- Names and numbers as keys. -/
def kS (s : List UInt8) : Value := .string (bs s)
def kI (n : Int) : Value := .int .i64 n
theorem kS_inj (s t : List UInt8) (h : kS s = kS t) : s = t := by unfold kS at h; injection h with h; exact bs_inj.1 h
theorem kI_inj (s t : Int) (h : kI s = kI t) : s = t := by unfold kI at h; injection h
end Go.Proofs.Ytoaonficdkgfiaa
