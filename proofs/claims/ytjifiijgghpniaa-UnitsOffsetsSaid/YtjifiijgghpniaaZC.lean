/-
  ZC: several texts in one.
-/
import Derived.Test.YtjifiijgghpniaaZA
import Derived.Test.YtjifiijgghpniaaZB
/-
  Maps in memory as functions: made, asked, changed.
-/
namespace Go.Proofs.Ytjifiijgghpniaa
open Go.RowKit Un MapKept

variable {κ : Type}
/-- Block mb holds a map: what it answers. -/
def MapF (key : κ → Value) (d : TypeDesc) (w : World) (mb : Nat) (f : κ → Option Value) : Prop :=
  ∃ es clock, w.heap[mb]? = some (.map es clock) ∧ (∀ x ∈ es.toList, IsKey d x.key) ∧ (es.toList.map (·.key)).Nodup ∧ ∀ k v, f k = some v ↔ ∃ e ∈ es.toList, e.key = key k ∧ e.val = v
def updF [DecidableEq κ] (f : κ → Option Value) (k : κ) (v : Value) : κ → Option Value := fun x => if x = k then some v else f x
theorem MapF.lt {key : κ → Value} {d : TypeDesc} {w : World} {mb : Nat} {f : κ → Option Value} (h : MapF key d w mb f) : mb < w.heap.size := by
  obtain ⟨es, c, h, -⟩ := h
  exact (Array.getElem?_eq_some_iff.1 h).1
theorem MapF.of {key : κ → Value} {d : TypeDesc} {w w1 : World} {mb : Nat} {f : κ → Option Value} (h : MapF key d w mb f) (hb : w1.heap[mb]? = w.heap[mb]?) : MapF key d w1 mb f := by
  obtain ⟨es, c, h, h2⟩ := h
  exact ⟨es, c, hb.trans h, h2⟩
theorem MapF.bel {key : κ → Value} {d : TypeDesc} {w w1 : World} {mb : Nat} {f : κ → Option Value} (h : MapF key d w mb f) (hB : RowKit.Below w.heap.size w w1) : MapF key d w1 mb f := h.of (hB.block mb h.lt)
theorem MapF.new (key : κ → Value) (d : TypeDesc) (w : World) : MapF key d (w.alloc (.map #[] 0)) w.heap.size (fun _ => none) := ⟨#[], 0, (heap_alloc w _).1, by simp, by simp, by simp⟩
theorem find_in (d : TypeDesc) (es : List MapEntry) (k : Value) (hk : IsKey d k) (hks : ∀ x ∈ es, IsKey d x.key) (hn : (es.map (·.key)).Nodup) (v : Value) (he : ∃ e ∈ es, e.key = k ∧ e.val = v) : ∃ j e, Instr.findNow d k es 0 = some (some (j, v)) ∧ es[j]? = some e ∧ e.key = k := by
  obtain ⟨e0, h0, h1, h2⟩ := he
  rcases findNow_spec hk es 0 hks with ⟨a, b⟩ | ⟨j, e, a, b, c⟩
  · exact absurd h1 (b e0 h0)
  · have : e = e0 := by
      obtain ⟨i, hi⟩ := List.getElem?_of_mem h0
      have hij : j = i := by
        have hj1 := (List.getElem?_eq_some_iff.1 b).1
        refine (List.getElem?_inj (l := es.map (·.key)) (by simpa using hj1) hn).1 ?_
        rw [List.getElem?_map, List.getElem?_map, b, hi, Option.map_some, Option.map_some, c, h1]
      subst hij
      rw [b] at hi; exact Option.some.inj hi
    subst this
    exact ⟨j, e, by rw [a, h2, Nat.zero_add], b, c⟩
theorem find_no (d : TypeDesc) (es : List MapEntry) (k : Value) (hk : IsKey d k) (hks : ∀ x ∈ es, IsKey d x.key) (he : ¬ ∃ v, ∃ e ∈ es, e.key = k ∧ e.val = v) : Instr.findNow d k es 0 = some none ∧ ∀ x ∈ es, x.key ≠ k := by
  rcases findNow_spec hk es 0 hks with ⟨a, b⟩ | ⟨j, e, a, b, c⟩
  · exact ⟨a, b⟩
  · exact absurd ⟨e.val, e, List.mem_of_getElem? b, c, rfl⟩ he
section
variable [DecidableEq κ] {P : Program} {key : κ → Value} {d : TypeDesc} {w : World} {mb : Nat} {f : κ → Option Value} {T kt et : TypeId}
omit [DecidableEq κ] in
theorem MapF.ask (h : MapF key d w mb f) (hT : P.underlying T = some (.map kt et)) (hd : P.underlying kt = some d) (k : κ) (hk : IsKey d (key k)) (ok : Bool) (z : Value) (hz : (zeroValue et).run P w = .ok z w) :
    (Instr.lookup T (.map (some mb)) (key k) ok).run P w = .ok (if ok then .tuple #[(f k).getD z, .bool (f k).isSome] else (f k).getD z) w := by
  obtain ⟨es, c, hb, hks, hn, hf⟩ := h
  cases hfk : f k with
  | some v =>
    obtain ⟨j, e, h1, -, -⟩ := find_in d es.toList (key k) hk hks hn v ((hf k v).1 hfk)
    simp only [Instr.lookup, Sem.run_bind, run_underlying hT, Result.andThen, MapKept.run_getObj_map hb, Sem.run_pure, run_checkKey hd hk, run_findKey hd h1]
    cases ok <;> simp
  | none =>
    have hno : ¬ ∃ v, ∃ e ∈ es.toList, e.key = key k ∧ e.val = v := by
      rintro ⟨v, he⟩
      rw [(hf k v).2 he] at hfk
      cases hfk
    obtain ⟨h1, -⟩ := find_no d es.toList (key k) hk hks hno
    simp only [Instr.lookup, Sem.run_bind, run_underlying hT, Result.andThen, MapKept.run_getObj_map hb, Sem.run_pure, run_checkKey hd hk, run_findKey hd h1, hz]
    cases ok <;> simp
theorem MapF.update (h : MapF key d w mb f) (hT : P.underlying T = some (.map kt et)) (hd : P.underlying kt = some d) (k : κ) (hk : IsKey d (key k)) (hinj : ∀ x, key x = key k → x = k) (v : Value) :
    ∃ o, (Instr.mapUpdate T (.map (some mb)) (key k) v).run P w = .ok () { w with heap := w.heap.setIfInBounds mb o } ∧ MapF key d { w with heap := w.heap.setIfInBounds mb o } mb (updF f k v) := by
  obtain ⟨es, c, hb, hks, hn, hf⟩ := h
  by_cases he : ∃ u, ∃ e ∈ es.toList, e.key = key k ∧ e.val = u
  · obtain ⟨u, he⟩ := he
    obtain ⟨j, e, h1, h2, h3⟩ := find_in d es.toList (key k) hk hks hn u he
    have hj : es[j]? = some e := by simpa using h2
    refine ⟨.map (es.modify j fun e => { e with key := key k, val := v }) c, ?_, _, _, (heap_set hb).1, ?_, ?_, ?_⟩
    · simp [Instr.mapUpdate, run_underlying hT, MapKept.run_getObj_map hb, run_checkKey hd hk, run_findKey hd h1, hj, h3, run_keyThatStays hk, run_setObj_map _ hb, Result.andThen]
    · exact isKey_modify hks _ _ (fun e' he' => by rw [hj] at he'; cases he'; exact h3.symm)
    · rw [modify_keys j _ (fun e' he' => by rw [hj] at he'; cases he'; exact h3.symm)]; exact hn
    · intro k' v'
      have hm : ∀ e', e' ∈ (es.modify j fun e => { e with key := key k, val := v }).toList ↔ (e' = { e with key := key k, val := v } ∨ (e' ∈ es.toList ∧ e'.key ≠ key k)) := by
        intro e'
        rw [Array.mem_toList_iff, Array.mem_iff_getElem?]
        constructor
        · rintro ⟨i, hi⟩
          rw [Array.getElem?_modify] at hi
          split at hi
          · rename_i hij; subst hij
            rw [hj] at hi
            exact .inl (Option.some.inj hi).symm
          · rename_i hij
            refine .inr ⟨by rw [Array.mem_toList_iff]; exact Array.mem_of_getElem? hi, fun hk' => hij ?_⟩
            have hj1 := (Array.getElem?_eq_some_iff.1 hj).1
            refine (List.getElem?_inj (l := es.toList.map (·.key)) (by simpa using hj1) hn).1 ?_
            rw [List.getElem?_map, List.getElem?_map, Array.getElem?_toList, Array.getElem?_toList, hj, hi, Option.map_some, Option.map_some, h3, hk']
        · rintro (rfl | ⟨h4, h5⟩)
          · exact ⟨j, by rw [Array.getElem?_modify, if_pos rfl, hj]; rfl⟩
          · obtain ⟨i, hi⟩ := List.getElem?_of_mem h4
            rw [Array.getElem?_toList] at hi
            refine ⟨i, ?_⟩
            rw [Array.getElem?_modify]
            split
            · rename_i hij; subst hij
              rw [hj] at hi; cases hi
              exact absurd h3 h5
            · exact hi
      unfold updF
      by_cases hkk : k' = k
      · subst hkk
        rw [if_pos rfl]
        constructor
        · intro e1; cases e1; exact ⟨_, (hm _).2 (.inl rfl), rfl, rfl⟩
        · rintro ⟨e', h4, h5, h6⟩
          rcases (hm _).1 h4 with rfl | h7
          · rw [← h6]
          · exact absurd h5 h7.2
      · rw [if_neg hkk, hf]
        constructor
        · rintro ⟨e', h4, h5, h6⟩; exact ⟨e', (hm _).2 (.inr ⟨h4, fun h7 => hkk (hinj k' (h5.symm.trans h7))⟩), h5, h6⟩
        · rintro ⟨e', h4, h5, h6⟩
          rcases (hm _).1 h4 with rfl | h7
          · exact absurd (hinj k' h5.symm) hkk
          · exact ⟨e', h7.1, h5, h6⟩
  · obtain ⟨h1, h2⟩ := find_no d es.toList (key k) hk hks he
    refine ⟨.map (es.push { key := key k, val := v, born := c }) (c + 1), ?_, _, _, (heap_set hb).1, ?_, ?_, ?_⟩
    · simp [Instr.mapUpdate, run_underlying hT, MapKept.run_getObj_map hb, run_checkKey hd hk, run_findKey hd h1, run_setObj_map _ hb, Result.andThen]
    · intro x hx
      simp only [Array.toList_push, List.mem_append, List.mem_singleton] at hx
      rcases hx with hx | rfl
      · exact hks x hx
      · exact hk
    · rw [Array.toList_push, List.map_append, List.nodup_append]
      refine ⟨hn, by simp, ?_⟩
      intro a ha b hb
      obtain ⟨x, hx, rfl⟩ := List.mem_map.1 ha
      simp only [List.map_cons, List.map_nil, List.mem_singleton] at hb
      subst hb
      exact h2 x hx
    · intro k' v'
      unfold updF
      simp only [Array.toList_push, List.mem_append, List.mem_singleton]
      by_cases hkk : k' = k
      · subst hkk
        rw [if_pos rfl]
        constructor
        · intro e1; cases e1; exact ⟨_, .inr rfl, rfl, rfl⟩
        · rintro ⟨e', h4 | rfl, h5, h6⟩
          · exact absurd h5 (h2 e' h4)
          · rw [← h6]
      · rw [if_neg hkk, hf]
        constructor
        · rintro ⟨e', h4, h5, h6⟩; exact ⟨e', .inl h4, h5, h6⟩
        · rintro ⟨e', h4 | rfl, h5, h6⟩
          · exact ⟨e', h4, h5, h6⟩
          · exact absurd (hinj k' h5.symm) hkk
end
theorem kept_set {w w1 : World} {mb : Nat} (h : Kept mb w w1) (o : Obj) : Kept mb w { w1 with heap := w1.heap.setIfInBounds mb o } :=
  ⟨h.os, h.tape, h.output, by simpa using h.size, fun k hk hn => (by simp [Ne.symm hn] : (w1.heap.setIfInBounds mb o)[k]? = w1.heap[k]?).trans (h.block k hk hn)⟩
theorem below_set {B : Nat} {w w1 : World} {mb : Nat} (h : RowKit.Below B w w1) (hb : B ≤ mb) (o : Obj) : RowKit.Below B w { w1 with heap := w1.heap.setIfInBounds mb o } :=
  ⟨h.os, h.tape, h.output, by simpa using h.size, fun k hk => (by simp [show mb ≠ k by omega] : (w1.heap.setIfInBounds mb o)[k]? = w1.heap[k]?).trans (h.block k hk)⟩
/-- Names and numbers as keys. -/
def kS (s : List UInt8) : Value := .string (bs s)
def kI (n : Int) : Value := .int .i64 n
theorem kS_inj (s t : List UInt8) (h : kS s = kS t) : s = t := by unfold kS at h; injection h with h; exact bs_inj.1 h
theorem kI_inj (s t : Int) (h : kI s = kI t) : s = t := by unfold kI at h; injection h
end Go.Proofs.Ytjifiijgghpniaa
/-
  Contracts of the operators of units: the closures over operands.
-/
namespace Go.Proofs.Ytjifiijgghpniaa
open Go.RowKit Un

/-- Two operands in memory. -/
structure U2 (w : World) (b off : Nat) (u v : U) : Prop where
  a0 : w.cell? ⟨b, off, none⟩ = some (.bool u.f)
  a1 : w.cell? ⟨b, off + 1, none⟩ = some (.int .i64 u.m)
  a2 : w.cell? ⟨b, off + 2, none⟩ = some (.int .i64 u.a)
  a3 : w.cell? ⟨b, off + 3, none⟩ = some (.int .i64 u.d)
  b0 : w.cell? ⟨b, off + 4, none⟩ = some (.bool v.f)
  b1 : w.cell? ⟨b, off + 5, none⟩ = some (.int .i64 v.m)
  b2 : w.cell? ⟨b, off + 6, none⟩ = some (.int .i64 v.a)
  b3 : w.cell? ⟨b, off + 7, none⟩ = some (.int .i64 v.d)
theorem U2.of {w : World} {b off : Nat} {p : Option Addr} {u v : U} (h : SlR w p b off 2 4 [uC u, uC v]) : p = some ⟨b, off, none⟩ ∧ U2 w b off u v := by
  refine ⟨h.ptr (by omega), ?_⟩
  have h0 := (h.at_ 0 _ rfl).2
  have h1 := (h.at_ 1 _ rfl).2
  exact ⟨h0 0 _ rfl, h0 1 _ rfl, h0 2 _ rfl, h0 3 _ rfl, h1 0 _ rfl, h1 1 _ rfl, h1 2 _ rfl, h1 3 _ rfl⟩
theorem U2.lt {w : World} {b off : Nat} {u v : U} (h : U2 w b off u v) : b < w.heap.size := World.block_lt_of_cell? _ _ h.a0
theorem U2.at {w w1 : World} {b off : Nat} {u v : U} (h : U2 w b off u v) (hb : w1.heap[b]? = w.heap[b]?) : U2 w1 b off u v :=
  ⟨(World.cell?_of_block (w := w) (a := ⟨b, off, none⟩) hb).trans h.a0, (World.cell?_of_block (w := w) (a := ⟨b, off + 1, none⟩) hb).trans h.a1, (World.cell?_of_block (w := w) (a := ⟨b, off + 2, none⟩) hb).trans h.a2, (World.cell?_of_block (w := w) (a := ⟨b, off + 3, none⟩) hb).trans h.a3, (World.cell?_of_block (w := w) (a := ⟨b, off + 4, none⟩) hb).trans h.b0, (World.cell?_of_block (w := w) (a := ⟨b, off + 5, none⟩) hb).trans h.b1, (World.cell?_of_block (w := w) (a := ⟨b, off + 6, none⟩) hb).trans h.b2, (World.cell?_of_block (w := w) (a := ⟨b, off + 7, none⟩) hb).trans h.b3⟩
theorem U2.bel {w w1 : World} {b off : Nat} {u v : U} (h : U2 w b off u v) (hB : RowKit.Below w.heap.size w w1) : U2 w1 b off u v := h.at (hB.block b h.lt)
theorem U2.other {w : World} {b off r : Nat} {u v : U} (h : U2 w b off u v) (hr : b ≠ r) (o : Nat) (x : Value) : U2 (w.setCell ⟨r, o, none⟩ x) b off u v := h.at (Below.heap_setCell _ _ _ _ hr)
/-- The unit of flags in memory, as the closures know it. -/
structure FlagM (w : World) (fb : Nat) : Prop where
  f0 : w.cell? ⟨fb, 0, none⟩ = some (.bool true)
  f1 : w.cell? ⟨fb, 1, none⟩ = some (.int .i64 0)
  f2 : w.cell? ⟨fb, 2, none⟩ = some (.int .i64 0)
  f3 : w.cell? ⟨fb, 3, none⟩ = some (.int .i64 0)
theorem FlagM.lt {w : World} {fb : Nat} (h : FlagM w fb) : fb < w.heap.size := World.block_lt_of_cell? _ _ h.f0
theorem FlagM.at {w w1 : World} {fb : Nat} (h : FlagM w fb) (hb : w1.heap[fb]? = w.heap[fb]?) : FlagM w1 fb :=
  ⟨(World.cell?_of_block (w := w) (a := ⟨fb, 0, none⟩) hb).trans h.f0, (World.cell?_of_block (w := w) (a := ⟨fb, 1, none⟩) hb).trans h.f1, (World.cell?_of_block (w := w) (a := ⟨fb, 2, none⟩) hb).trans h.f2, (World.cell?_of_block (w := w) (a := ⟨fb, 3, none⟩) hb).trans h.f3⟩
theorem FlagM.bel {w w1 : World} {fb : Nat} (h : FlagM w fb) (hB : RowKit.Below w.heap.size w w1) : FlagM w1 fb := h.at (hB.block fb h.lt)
theorem FlagM.other {w : World} {fb r : Nat} (h : FlagM w fb) (hr : fb ≠ r) (o : Nat) (x : Value) : FlagM (w.setCell ⟨r, o, none⟩ x) fb := h.at (Below.heap_setCell _ _ _ _ hr)
theorem box4 {w : World} {b : Nat} {x0 x1 x2 x3 : Value} (h : BoxL w b [x0, x1, x2, x3]) : w.cell? ⟨b, 0, none⟩ = some x0 ∧ w.cell? ⟨b, 1, none⟩ = some x1 ∧ w.cell? ⟨b, 2, none⟩ = some x2 ∧ w.cell? ⟨b, 3, none⟩ = some x3 ∧ w.frozen? ⟨b, 0, none⟩ = false ∧ w.frozen? ⟨b, 1, none⟩ = false ∧ w.frozen? ⟨b, 2, none⟩ = false ∧ w.frozen? ⟨b, 3, none⟩ = false := ⟨(h 0 _ rfl).1, (h 1 _ rfl).1, (h 2 _ rfl).1, (h 3 _ rfl).1, (h 0 _ rfl).2, (h 1 _ rfl).2, (h 2 _ rfl).2, (h 3 _ rfl).2⟩
theorem eqU_if {α : Type} (uf : Bool) (um ua ud : Int) (vf : Bool) (vm va vd : Int) (A B : α) : (if uf = vf then if um = vm then if ua = va then if ud = vd then A else B else B else B else B) = if decide ((⟨uf, um, ua, ud⟩ : U) = ⟨vf, vm, va, vd⟩) = true then A else B := by
  by_cases h1 : uf = vf <;> by_cases h2 : um = vm <;> by_cases h3 : ua = va <;> by_cases h4 : ud = vd <;> simp [h1, h2, h3, h4]
set_option maxRecDepth 100000 in
set_option maxHeartbeats 6000000 in
theorem opEqual (u v : U) (b off c fb : Nat) (w : World) (h2 : U2 w b off u v) (hf : FlagM w fb) :
    Calls Try.prog 73 #[.slice (some ⟨b, off, none⟩) 2 c, .pointer (some ⟨fb, 0, none⟩)] w fun e w' => e = .returned (.tuple #[uV uFlag, .bool (decide (u = v))]) ∧ RowKit.Below w.heap.size w w' := by
  have HE : ∀ (A B : Result Next), (if u.f = v.f then if u.m = v.m then if u.a = v.a then if u.d = v.d then A else B else B else B else B) = if decide (u = v) = true then A else B := fun A B => eqU_if _ _ _ _ _ _ _ _ A B
  have NB : b ≠ w.heap.size := by have := h2.lt; omega
  have NF : fb ≠ w.heap.size := by have := hf.lt; omega
  obtain ⟨W1, hW1⟩ : ∃ W1, W1 = w.alloc (.cells #[.bool false, .int .i64 0, .int .i64 0, .int .i64 0] 29) := ⟨_, rfl⟩
  have B1 := Lib.hid ((Below.refl w.heap.size w).alloc (Nat.le_refl _) (.cells #[.bool false, .int .i64 0, .int .i64 0, .int .i64 0] 29))
  have X1 := Lib.hid (BoxL.new w [.bool false, .int .i64 0, .int .i64 0, .int .i64 0] 29)
  rw [← hW1] at B1
  have X1' : Hid (BoxL W1 w.heap.size [.bool false, .int .i64 0, .int .i64 0, .int .i64 0]) := by rw [hW1]; exact X1.out
  clear X1
  have M1 := Lib.hid (h2.bel B1.out)
  have F1 := Lib.hid (hf.bel B1.out)
  clear h2 hf
  obtain ⟨R, hR⟩ : ∃ R, R = decide (u = v) := ⟨_, rfl⟩
  rw [← hR] at HE ⊢
  clear hR
  obtain ⟨uf, um, ua, ud⟩ := u
  obtain ⟨vf, vm, va, vd⟩ := v
  simp only at HE
  replace HE := Lib.hid HE
  obtain ⟨a0, a1, a2, a3, b0, b1, b2, b3⟩ := M1.out
  obtain ⟨f0, f1, f2, f3⟩ := F1.out
  go_enter Try.func73, Try.ntmps73
  go_wp2_with fail
  rw [← hW1]
  clear hW1
  have hS : W1.drew.cell? ⟨b, off, none⟩ = some (.bool uf) ∧ W1.drew.cell? ⟨b, off + 1, none⟩ = some (.int .i64 um) ∧ W1.drew.cell? ⟨b, off + 2, none⟩ = some (.int .i64 ua) ∧ W1.drew.cell? ⟨b, off + 3, none⟩ = some (.int .i64 ud) ∧ W1.drew.cell? ⟨b, off + 4, none⟩ = some (.bool vf) ∧ W1.drew.cell? ⟨b, off + 5, none⟩ = some (.int .i64 vm) ∧ W1.drew.cell? ⟨b, off + 6, none⟩ = some (.int .i64 va) ∧ W1.drew.cell? ⟨b, off + 7, none⟩ = some (.int .i64 vd) ∧ W1.drew.cell? ⟨fb, 0, none⟩ = some (.bool true) ∧ W1.drew.cell? ⟨fb, 1, none⟩ = some (.int .i64 0) ∧ W1.drew.cell? ⟨fb, 2, none⟩ = some (.int .i64 0) ∧ W1.drew.cell? ⟨fb, 3, none⟩ = some (.int .i64 0) := ⟨a0, a1, a2, a3, b0, b1, b2, b3, f0, f1, f2, f3⟩
  refine wp_region_held (S := fun w' : World => w'.cell? ⟨b, off, none⟩ = some (.bool uf) ∧ w'.cell? ⟨b, off + 1, none⟩ = some (.int .i64 um) ∧ w'.cell? ⟨b, off + 2, none⟩ = some (.int .i64 ua) ∧ w'.cell? ⟨b, off + 3, none⟩ = some (.int .i64 ud) ∧ w'.cell? ⟨b, off + 4, none⟩ = some (.bool vf) ∧ w'.cell? ⟨b, off + 5, none⟩ = some (.int .i64 vm) ∧ w'.cell? ⟨b, off + 6, none⟩ = some (.int .i64 va) ∧ w'.cell? ⟨b, off + 7, none⟩ = some (.int .i64 vd) ∧ w'.cell? ⟨fb, 0, none⟩ = some (.bool true) ∧ w'.cell? ⟨fb, 1, none⟩ = some (.int .i64 0) ∧ w'.cell? ⟨fb, 2, none⟩ = some (.int .i64 0) ∧ w'.cell? ⟨fb, 3, none⟩ = some (.int .i64 0)) mixed ?_
  change wpAnyH _ _ _ _ _ _ _ _ W1.drew
  refine tk0 (v := ?_) (by kernel_rfl) (by kernel_rfl) (by kernel_rfl) (fun _ _ _ h => h) (Or.inl ⟨by rfl, ?_⟩) hS ?_
  rotate_left
  · (intro w hSw; (try dsimp only at hSw); go_simp; try with_reducible rfl)
  simp only [Act.put, List.setIfInBounds_toArray, List.set_cons_zero, List.set_cons_succ]
  refine tk1 (v := ?_) (by kernel_rfl) (by kernel_rfl) (by kernel_rfl) (fun _ _ _ h => h) (Or.inl ⟨by rfl, ?_⟩) hS ?_
  rotate_left
  · (intro w hSw; (try dsimp only at hSw); go_simp; try with_reducible rfl)
  simp only [Act.put, List.setIfInBounds_toArray, List.set_cons_zero, List.set_cons_succ]
  refine tk2 (v := ?_) (by kernel_rfl) (by kernel_rfl) (by kernel_rfl) (fun _ _ _ h => h) (Or.inl ⟨by rfl, ?_⟩) hS ?_
  rotate_left
  · (intro w hSw; (try dsimp only at hSw); go_simp; try with_reducible rfl)
  simp only [Act.put, List.setIfInBounds_toArray, List.set_cons_zero, List.set_cons_succ]
  refine tk3 (v := ?_) (by kernel_rfl) (by kernel_rfl) (by kernel_rfl) (fun _ _ _ h => h) (Or.inl ⟨by rfl, ?_⟩) hS ?_
  rotate_left
  · (intro w hSw; (try dsimp only at hSw); go_simp; try with_reducible rfl)
  simp only [Act.put, List.setIfInBounds_toArray, List.set_cons_zero, List.set_cons_succ]
  refine tk4 (v := ?_) (by kernel_rfl) (by kernel_rfl) (by kernel_rfl) (fun _ _ _ h => h) (Or.inl ⟨by rfl, ?_⟩) hS ?_
  rotate_left
  · (intro w hSw; (try dsimp only at hSw); go_simp; try with_reducible rfl)
  simp only [Act.put, List.setIfInBounds_toArray, List.set_cons_zero, List.set_cons_succ]
  refine tk5 (v := ?_) (by kernel_rfl) (by kernel_rfl) (by kernel_rfl) (fun _ _ _ h => h) (Or.inl ⟨by rfl, ?_⟩) hS ?_
  rotate_left
  · (intro w hSw; (try dsimp only at hSw); go_simp; try with_reducible rfl)
  simp only [Act.put, List.setIfInBounds_toArray, List.set_cons_zero, List.set_cons_succ]
  refine tk6 (v := ?_) (by kernel_rfl) (by kernel_rfl) (by kernel_rfl) (fun _ _ _ h => h) (Or.inl ⟨by rfl, ?_⟩) hS ?_
  rotate_left
  · (intro w hSw; (try dsimp only at hSw); go_simp; try with_reducible rfl)
  simp only [Act.put, List.setIfInBounds_toArray, List.set_cons_zero, List.set_cons_succ]
  refine tk7 (v := .bool R) (by kernel_rfl) (by kernel_rfl) (by kernel_rfl) (fun _ _ _ h => h) (Or.inl ⟨by rfl, (by intro w hSw; (try dsimp only at hSw); go_simp; first | (rw [HE.out]; first | rfl | (cases R <;> rfl)) | (intro h1 h2 h3 h4; have he := HE.out (.ok (.value (.bool true)) w) (.ok (.value (.bool false)) w); simp [h1, h2, h3, h4] at he))⟩) hS ?_
  simp only [Act.put, List.setIfInBounds_toArray, List.set_cons_zero, List.set_cons_succ]
  refine wpAnyH_ready (rs := [8]) (by kernel_rfl) (by simp) (st8 (fun K hK => ?_) AllReadyH.nil)
  obtain ⟨x0, x1, x2, x3, g0, g1, g2, g3⟩ := box4 X1'.out
  go_simp
  have M2 := Lib.hid ((((((M1.out).other NB 0 (.bool true)).other NB 1 (.int .i64 0)).other NB 2 (.int .i64 0)).other NB 3 (.int .i64 0)).bel (Below.refl _ _).drew)
  have F2 := Lib.hid ((((((F1.out).other NF 0 (.bool true)).other NF 1 (.int .i64 0)).other NF 2 (.int .i64 0)).other NF 3 (.int .i64 0)).bel (Below.refl _ _).drew)
  refine hK.out _ _ ?_ (fun hHeld => ?_)
  · exact ⟨M2.out.a0, M2.out.a1, M2.out.a2, M2.out.a3, M2.out.b0, M2.out.b1, M2.out.b2, M2.out.b3, F2.out.f0, F2.out.f1, F2.out.f2, F2.out.f3⟩
  clear hK K
  try simp only [Act.put, List.setIfInBounds_toArray, List.set_cons_zero, List.set_cons_succ]
  refine tk9 (v := ?_) (by kernel_rfl) (by kernel_rfl) (by kernel_rfl) (fun _ _ _ h => h) (Or.inl ⟨by rfl, ?_⟩) hHeld ?_
  rotate_left
  · (intro w hSw; (try dsimp only at hSw); go_simp; try with_reducible rfl)
  simp only [Act.put, List.setIfInBounds_toArray, List.set_cons_zero, List.set_cons_succ]
  refine wpAnyH_done (by kernel_rfl) ?_ _
  go_wp2_with fail
  exact bodyPost_ret (v := .tuple #[.agg #[.bool true, .int .i64 0, .int .i64 0, .int .i64 0], .bool R]) (by simp [results, Try.results73, go_sem, x0, x1, x2, x3]) rfl ⟨by simp [uV, uC, uFlag], (by repeat' (first | (with_reducible exact B1.out) | (with_reducible refine Below.setCell ?_ ?_ _) | (with_reducible refine Below.alloc ?_ ?_ _) | (with_reducible refine Below.drew ?_) | (with_reducible refine below_drewN ?_ _) | (with_reducible exact Below.refl _ _) | omega | (simp; done) | (simp; omega)))⟩
set_option maxRecDepth 100000 in
set_option maxHeartbeats 6000000 in
theorem opOrder (u v : U) (b off c fb : Nat) (w : World) (h2 : U2 w b off u v) (hf : FlagM w fb) :
    Calls Try.prog 74 #[.slice (some ⟨b, off, none⟩) 2 c, .pointer (some ⟨fb, 0, none⟩)] w fun e w' => e = .returned (.tuple #[uV uFlag, .bool (decide (u = v) && !u.f)]) ∧ RowKit.Below w.heap.size w w' := by
  have HE : ∀ (A B : Result Next), (if u.f = v.f then if u.m = v.m then if u.a = v.a then if u.d = v.d then A else B else B else B else B) = if decide (u = v) = true then A else B := fun A B => eqU_if _ _ _ _ _ _ _ _ A B
  have NB : b ≠ w.heap.size := by have := h2.lt; omega
  have NF : fb ≠ w.heap.size := by have := hf.lt; omega
  obtain ⟨W1, hW1⟩ : ∃ W1, W1 = w.alloc (.cells #[.bool false, .int .i64 0, .int .i64 0, .int .i64 0] 29) := ⟨_, rfl⟩
  have B1 := Lib.hid ((Below.refl w.heap.size w).alloc (Nat.le_refl _) (.cells #[.bool false, .int .i64 0, .int .i64 0, .int .i64 0] 29))
  have X1 := Lib.hid (BoxL.new w [.bool false, .int .i64 0, .int .i64 0, .int .i64 0] 29)
  rw [← hW1] at B1
  have X1' : Hid (BoxL W1 w.heap.size [.bool false, .int .i64 0, .int .i64 0, .int .i64 0]) := by rw [hW1]; exact X1.out
  clear X1
  have M1 := Lib.hid (h2.bel B1.out)
  have F1 := Lib.hid (hf.bel B1.out)
  clear h2 hf
  obtain ⟨R, hR⟩ : ∃ R, R = decide (u = v) := ⟨_, rfl⟩
  rw [← hR] at HE ⊢
  clear hR
  obtain ⟨uf, um, ua, ud⟩ := u
  obtain ⟨vf, vm, va, vd⟩ := v
  simp only at HE
  replace HE := Lib.hid HE
  obtain ⟨a0, a1, a2, a3, b0, b1, b2, b3⟩ := M1.out
  obtain ⟨f0, f1, f2, f3⟩ := F1.out
  cases R with
  | true =>
    go_enter Try.func74, Try.ntmps74
    go_wp2_with fail
    rw [← hW1]
    clear hW1
    have hS : W1.drew.cell? ⟨b, off, none⟩ = some (.bool uf) ∧ W1.drew.cell? ⟨b, off + 1, none⟩ = some (.int .i64 um) ∧ W1.drew.cell? ⟨b, off + 2, none⟩ = some (.int .i64 ua) ∧ W1.drew.cell? ⟨b, off + 3, none⟩ = some (.int .i64 ud) ∧ W1.drew.cell? ⟨b, off + 4, none⟩ = some (.bool vf) ∧ W1.drew.cell? ⟨b, off + 5, none⟩ = some (.int .i64 vm) ∧ W1.drew.cell? ⟨b, off + 6, none⟩ = some (.int .i64 va) ∧ W1.drew.cell? ⟨b, off + 7, none⟩ = some (.int .i64 vd) ∧ W1.drew.cell? ⟨fb, 0, none⟩ = some (.bool true) ∧ W1.drew.cell? ⟨fb, 1, none⟩ = some (.int .i64 0) ∧ W1.drew.cell? ⟨fb, 2, none⟩ = some (.int .i64 0) ∧ W1.drew.cell? ⟨fb, 3, none⟩ = some (.int .i64 0) := ⟨a0, a1, a2, a3, b0, b1, b2, b3, f0, f1, f2, f3⟩
    refine wp_region_held (S := fun w' : World => w'.cell? ⟨b, off, none⟩ = some (.bool uf) ∧ w'.cell? ⟨b, off + 1, none⟩ = some (.int .i64 um) ∧ w'.cell? ⟨b, off + 2, none⟩ = some (.int .i64 ua) ∧ w'.cell? ⟨b, off + 3, none⟩ = some (.int .i64 ud) ∧ w'.cell? ⟨b, off + 4, none⟩ = some (.bool vf) ∧ w'.cell? ⟨b, off + 5, none⟩ = some (.int .i64 vm) ∧ w'.cell? ⟨b, off + 6, none⟩ = some (.int .i64 va) ∧ w'.cell? ⟨b, off + 7, none⟩ = some (.int .i64 vd) ∧ w'.cell? ⟨fb, 0, none⟩ = some (.bool true) ∧ w'.cell? ⟨fb, 1, none⟩ = some (.int .i64 0) ∧ w'.cell? ⟨fb, 2, none⟩ = some (.int .i64 0) ∧ w'.cell? ⟨fb, 3, none⟩ = some (.int .i64 0)) mixed ?_
    change wpAnyH _ _ _ _ _ _ _ _ W1.drew
    refine tk0 (v := ?_) (by kernel_rfl) (by kernel_rfl) (by kernel_rfl) (fun _ _ _ h => h) (Or.inl ⟨by rfl, ?_⟩) hS ?_
    rotate_left
    · (intro w hSw; (try dsimp only at hSw); go_simp; try with_reducible rfl)
    simp only [Act.put, List.setIfInBounds_toArray, List.set_cons_zero, List.set_cons_succ]
    refine tk1 (v := ?_) (by kernel_rfl) (by kernel_rfl) (by kernel_rfl) (fun _ _ _ h => h) (Or.inl ⟨by rfl, ?_⟩) hS ?_
    rotate_left
    · (intro w hSw; (try dsimp only at hSw); go_simp; try with_reducible rfl)
    simp only [Act.put, List.setIfInBounds_toArray, List.set_cons_zero, List.set_cons_succ]
    refine tk2 (v := ?_) (by kernel_rfl) (by kernel_rfl) (by kernel_rfl) (fun _ _ _ h => h) (Or.inl ⟨by rfl, ?_⟩) hS ?_
    rotate_left
    · (intro w hSw; (try dsimp only at hSw); go_simp; try with_reducible rfl)
    simp only [Act.put, List.setIfInBounds_toArray, List.set_cons_zero, List.set_cons_succ]
    refine tk3 (v := ?_) (by kernel_rfl) (by kernel_rfl) (by kernel_rfl) (fun _ _ _ h => h) (Or.inl ⟨by rfl, ?_⟩) hS ?_
    rotate_left
    · (intro w hSw; (try dsimp only at hSw); go_simp; try with_reducible rfl)
    simp only [Act.put, List.setIfInBounds_toArray, List.set_cons_zero, List.set_cons_succ]
    refine tk4 (v := ?_) (by kernel_rfl) (by kernel_rfl) (by kernel_rfl) (fun _ _ _ h => h) (Or.inl ⟨by rfl, ?_⟩) hS ?_
    rotate_left
    · (intro w hSw; (try dsimp only at hSw); go_simp; try with_reducible rfl)
    simp only [Act.put, List.setIfInBounds_toArray, List.set_cons_zero, List.set_cons_succ]
    refine tk5 (v := ?_) (by kernel_rfl) (by kernel_rfl) (by kernel_rfl) (fun _ _ _ h => h) (Or.inl ⟨by rfl, ?_⟩) hS ?_
    rotate_left
    · (intro w hSw; (try dsimp only at hSw); go_simp; try with_reducible rfl)
    simp only [Act.put, List.setIfInBounds_toArray, List.set_cons_zero, List.set_cons_succ]
    refine tk6 (v := ?_) (by kernel_rfl) (by kernel_rfl) (by kernel_rfl) (fun _ _ _ h => h) (Or.inl ⟨by rfl, ?_⟩) hS ?_
    rotate_left
    · (intro w hSw; (try dsimp only at hSw); go_simp; try with_reducible rfl)
    simp only [Act.put, List.setIfInBounds_toArray, List.set_cons_zero, List.set_cons_succ]
    refine tk7 (v := .bool true) (by kernel_rfl) (by kernel_rfl) (by kernel_rfl) (fun _ _ _ h => h) (Or.inl ⟨by rfl, (by intro w hSw; (try dsimp only at hSw); go_simp; first | (rw [HE.out]; first | rfl | (cases R <;> rfl)) | (intro h1 h2 h3 h4; have he := HE.out (.ok (.value (.bool true)) w) (.ok (.value (.bool false)) w); simp [h1, h2, h3, h4] at he))⟩) hS ?_
    simp only [Act.put, List.setIfInBounds_toArray, List.set_cons_zero, List.set_cons_succ]
    refine tk8 (v := ?_) (by kernel_rfl) (by kernel_rfl) (by kernel_rfl) (fun _ _ _ h => h) (Or.inl ⟨by rfl, ?_⟩) hS ?_
    rotate_left
    · (intro w hSw; (try dsimp only at hSw); go_simp; try with_reducible rfl)
    simp only [Act.put, List.setIfInBounds_toArray, List.set_cons_zero, List.set_cons_succ]
    refine tk9 (v := ?_) (by kernel_rfl) (by kernel_rfl) (by kernel_rfl) (fun _ _ _ h => h) (Or.inl ⟨by rfl, ?_⟩) hS ?_
    rotate_left
    · (intro w hSw; (try dsimp only at hSw); go_simp; try with_reducible rfl)
    simp only [Act.put, List.setIfInBounds_toArray, List.set_cons_zero, List.set_cons_succ]
    refine tk10 (v := ?_) (by kernel_rfl) (by kernel_rfl) (by kernel_rfl) (fun _ _ _ h => h) (Or.inl ⟨by rfl, ?_⟩) hS ?_
    rotate_left
    · (intro w hSw; (try dsimp only at hSw); go_simp; try with_reducible rfl)
    simp only [Act.put, List.setIfInBounds_toArray, List.set_cons_zero, List.set_cons_succ]
    refine tk11 (v := ?_) (by kernel_rfl) (by kernel_rfl) (by kernel_rfl) (fun _ _ _ h => h) (Or.inl ⟨by rfl, ?_⟩) hS ?_
    rotate_left
    · (intro w hSw; (try dsimp only at hSw); go_simp; try with_reducible rfl)
    simp only [Act.put, List.setIfInBounds_toArray, List.set_cons_zero, List.set_cons_succ]
    refine tk12 (v := ?_) (by kernel_rfl) (by kernel_rfl) (by kernel_rfl) (fun _ _ _ h => h) (Or.inl ⟨by rfl, ?_⟩) hS ?_
    rotate_left
    · (intro w hSw; (try dsimp only at hSw); go_simp; try with_reducible rfl)
    simp only [Act.put, List.setIfInBounds_toArray, List.set_cons_zero, List.set_cons_succ]
    refine tk13 (v := ?_) (by kernel_rfl) (by kernel_rfl) (by kernel_rfl) (fun _ _ _ h => h) (Or.inl ⟨by rfl, ?_⟩) hS ?_
    rotate_left
    · (intro w hSw; (try dsimp only at hSw); go_simp; try with_reducible rfl)
    simp only [Act.put, List.setIfInBounds_toArray, List.set_cons_zero, List.set_cons_succ]
    refine tk14 (v := ?_) (by kernel_rfl) (by kernel_rfl) (by kernel_rfl) (fun _ _ _ h => h) (Or.inl ⟨by rfl, ?_⟩) hS ?_
    rotate_left
    · (intro w hSw; (try dsimp only at hSw); go_simp; try with_reducible rfl)
    simp only [Act.put, List.setIfInBounds_toArray, List.set_cons_zero, List.set_cons_succ]
    refine wpAnyH_ready (rs := [15]) (by kernel_rfl) (by simp) (st15 (fun K hK => ?_) AllReadyH.nil)
    obtain ⟨x0, x1, x2, x3, g0, g1, g2, g3⟩ := box4 X1'.out
    go_simp
    have M2 := Lib.hid ((((((M1.out).other NB 0 (.bool true)).other NB 1 (.int .i64 0)).other NB 2 (.int .i64 0)).other NB 3 (.int .i64 0)).bel (Below.refl _ _).drew)
    have F2 := Lib.hid ((((((F1.out).other NF 0 (.bool true)).other NF 1 (.int .i64 0)).other NF 2 (.int .i64 0)).other NF 3 (.int .i64 0)).bel (Below.refl _ _).drew)
    refine hK.out _ _ ?_ (fun hHeld => ?_)
    · exact ⟨M2.out.a0, M2.out.a1, M2.out.a2, M2.out.a3, M2.out.b0, M2.out.b1, M2.out.b2, M2.out.b3, F2.out.f0, F2.out.f1, F2.out.f2, F2.out.f3⟩
    clear hK K
    try simp only [Act.put, List.setIfInBounds_toArray, List.set_cons_zero, List.set_cons_succ]
    refine tk16 (v := ?_) (by kernel_rfl) (by kernel_rfl) (by kernel_rfl) (fun _ _ _ h => h) (Or.inl ⟨by rfl, ?_⟩) hHeld ?_
    rotate_left
    · (intro w hSw; (try dsimp only at hSw); go_simp; try with_reducible rfl)
    simp only [Act.put, List.setIfInBounds_toArray, List.set_cons_zero, List.set_cons_succ]
    refine wpAnyH_done (by kernel_rfl) ?_ _
    go_wp2_with fail
    exact bodyPost_ret (v := .tuple #[.agg #[.bool true, .int .i64 0, .int .i64 0, .int .i64 0], .bool (!uf)]) (by simp [results, Try.results74, go_sem, x0, x1, x2, x3]) rfl ⟨by simp [uV, uC, uFlag], (by repeat' (first | (with_reducible exact B1.out) | (with_reducible refine Below.setCell ?_ ?_ _) | (with_reducible refine Below.alloc ?_ ?_ _) | (with_reducible refine Below.drew ?_) | (with_reducible refine below_drewN ?_ _) | (with_reducible exact Below.refl _ _) | omega | (simp; done) | (simp; omega)))⟩
  | false =>
    go_enter Try.func74, Try.ntmps74
    go_wp2_with fail
    rw [← hW1]
    clear hW1
    have hS : W1.drew.cell? ⟨b, off, none⟩ = some (.bool uf) ∧ W1.drew.cell? ⟨b, off + 1, none⟩ = some (.int .i64 um) ∧ W1.drew.cell? ⟨b, off + 2, none⟩ = some (.int .i64 ua) ∧ W1.drew.cell? ⟨b, off + 3, none⟩ = some (.int .i64 ud) ∧ W1.drew.cell? ⟨b, off + 4, none⟩ = some (.bool vf) ∧ W1.drew.cell? ⟨b, off + 5, none⟩ = some (.int .i64 vm) ∧ W1.drew.cell? ⟨b, off + 6, none⟩ = some (.int .i64 va) ∧ W1.drew.cell? ⟨b, off + 7, none⟩ = some (.int .i64 vd) ∧ W1.drew.cell? ⟨fb, 0, none⟩ = some (.bool true) ∧ W1.drew.cell? ⟨fb, 1, none⟩ = some (.int .i64 0) ∧ W1.drew.cell? ⟨fb, 2, none⟩ = some (.int .i64 0) ∧ W1.drew.cell? ⟨fb, 3, none⟩ = some (.int .i64 0) := ⟨a0, a1, a2, a3, b0, b1, b2, b3, f0, f1, f2, f3⟩
    refine wp_region_held (S := fun w' : World => w'.cell? ⟨b, off, none⟩ = some (.bool uf) ∧ w'.cell? ⟨b, off + 1, none⟩ = some (.int .i64 um) ∧ w'.cell? ⟨b, off + 2, none⟩ = some (.int .i64 ua) ∧ w'.cell? ⟨b, off + 3, none⟩ = some (.int .i64 ud) ∧ w'.cell? ⟨b, off + 4, none⟩ = some (.bool vf) ∧ w'.cell? ⟨b, off + 5, none⟩ = some (.int .i64 vm) ∧ w'.cell? ⟨b, off + 6, none⟩ = some (.int .i64 va) ∧ w'.cell? ⟨b, off + 7, none⟩ = some (.int .i64 vd) ∧ w'.cell? ⟨fb, 0, none⟩ = some (.bool true) ∧ w'.cell? ⟨fb, 1, none⟩ = some (.int .i64 0) ∧ w'.cell? ⟨fb, 2, none⟩ = some (.int .i64 0) ∧ w'.cell? ⟨fb, 3, none⟩ = some (.int .i64 0)) mixed ?_
    change wpAnyH _ _ _ _ _ _ _ _ W1.drew
    refine tk0 (v := ?_) (by kernel_rfl) (by kernel_rfl) (by kernel_rfl) (fun _ _ _ h => h) (Or.inl ⟨by rfl, ?_⟩) hS ?_
    rotate_left
    · (intro w hSw; (try dsimp only at hSw); go_simp; try with_reducible rfl)
    simp only [Act.put, List.setIfInBounds_toArray, List.set_cons_zero, List.set_cons_succ]
    refine tk1 (v := ?_) (by kernel_rfl) (by kernel_rfl) (by kernel_rfl) (fun _ _ _ h => h) (Or.inl ⟨by rfl, ?_⟩) hS ?_
    rotate_left
    · (intro w hSw; (try dsimp only at hSw); go_simp; try with_reducible rfl)
    simp only [Act.put, List.setIfInBounds_toArray, List.set_cons_zero, List.set_cons_succ]
    refine tk2 (v := ?_) (by kernel_rfl) (by kernel_rfl) (by kernel_rfl) (fun _ _ _ h => h) (Or.inl ⟨by rfl, ?_⟩) hS ?_
    rotate_left
    · (intro w hSw; (try dsimp only at hSw); go_simp; try with_reducible rfl)
    simp only [Act.put, List.setIfInBounds_toArray, List.set_cons_zero, List.set_cons_succ]
    refine tk3 (v := ?_) (by kernel_rfl) (by kernel_rfl) (by kernel_rfl) (fun _ _ _ h => h) (Or.inl ⟨by rfl, ?_⟩) hS ?_
    rotate_left
    · (intro w hSw; (try dsimp only at hSw); go_simp; try with_reducible rfl)
    simp only [Act.put, List.setIfInBounds_toArray, List.set_cons_zero, List.set_cons_succ]
    refine tk4 (v := ?_) (by kernel_rfl) (by kernel_rfl) (by kernel_rfl) (fun _ _ _ h => h) (Or.inl ⟨by rfl, ?_⟩) hS ?_
    rotate_left
    · (intro w hSw; (try dsimp only at hSw); go_simp; try with_reducible rfl)
    simp only [Act.put, List.setIfInBounds_toArray, List.set_cons_zero, List.set_cons_succ]
    refine tk5 (v := ?_) (by kernel_rfl) (by kernel_rfl) (by kernel_rfl) (fun _ _ _ h => h) (Or.inl ⟨by rfl, ?_⟩) hS ?_
    rotate_left
    · (intro w hSw; (try dsimp only at hSw); go_simp; try with_reducible rfl)
    simp only [Act.put, List.setIfInBounds_toArray, List.set_cons_zero, List.set_cons_succ]
    refine tk6 (v := ?_) (by kernel_rfl) (by kernel_rfl) (by kernel_rfl) (fun _ _ _ h => h) (Or.inl ⟨by rfl, ?_⟩) hS ?_
    rotate_left
    · (intro w hSw; (try dsimp only at hSw); go_simp; try with_reducible rfl)
    simp only [Act.put, List.setIfInBounds_toArray, List.set_cons_zero, List.set_cons_succ]
    refine tk7 (v := .bool false) (by kernel_rfl) (by kernel_rfl) (by kernel_rfl) (fun _ _ _ h => h) (Or.inl ⟨by rfl, (by intro w hSw; (try dsimp only at hSw); go_simp; first | (rw [HE.out]; first | rfl | (cases R <;> rfl)) | (intro h1 h2 h3 h4; have he := HE.out (.ok (.value (.bool true)) w) (.ok (.value (.bool false)) w); simp [h1, h2, h3, h4] at he))⟩) hS ?_
    simp only [Act.put, List.setIfInBounds_toArray, List.set_cons_zero, List.set_cons_succ]
    refine tk8 (v := ?_) (by kernel_rfl) (by kernel_rfl) (by kernel_rfl) (fun _ _ _ h => h) (Or.inl ⟨by rfl, ?_⟩) hS ?_
    rotate_left
    · (intro w hSw; (try dsimp only at hSw); go_simp; try with_reducible rfl)
    simp only [Act.put, List.setIfInBounds_toArray, List.set_cons_zero, List.set_cons_succ]
    refine tk9 (v := undef) (by kernel_rfl) (by kernel_rfl) (by kernel_rfl) (fun _ _ _ h => h) (Or.inr ⟨by rfl, rfl⟩) hS ?_
    simp only [Act.put, List.setIfInBounds_toArray, List.set_cons_zero, List.set_cons_succ]
    refine tk10 (v := undef) (by kernel_rfl) (by kernel_rfl) (by kernel_rfl) (fun _ _ _ h => h) (Or.inr ⟨by rfl, rfl⟩) hS ?_
    simp only [Act.put, List.setIfInBounds_toArray, List.set_cons_zero, List.set_cons_succ]
    refine tk11 (v := undef) (by kernel_rfl) (by kernel_rfl) (by kernel_rfl) (fun _ _ _ h => h) (Or.inr ⟨by rfl, rfl⟩) hS ?_
    simp only [Act.put, List.setIfInBounds_toArray, List.set_cons_zero, List.set_cons_succ]
    refine tk12 (v := undef) (by kernel_rfl) (by kernel_rfl) (by kernel_rfl) (fun _ _ _ h => h) (Or.inr ⟨by rfl, rfl⟩) hS ?_
    simp only [Act.put, List.setIfInBounds_toArray, List.set_cons_zero, List.set_cons_succ]
    refine tk13 (v := undef) (by kernel_rfl) (by kernel_rfl) (by kernel_rfl) (fun _ _ _ h => h) (Or.inr ⟨by rfl, rfl⟩) hS ?_
    simp only [Act.put, List.setIfInBounds_toArray, List.set_cons_zero, List.set_cons_succ]
    refine tk14 (v := ?_) (by kernel_rfl) (by kernel_rfl) (by kernel_rfl) (fun _ _ _ h => h) (Or.inl ⟨by rfl, ?_⟩) hS ?_
    rotate_left
    · (intro w hSw; (try dsimp only at hSw); go_simp; try with_reducible rfl)
    simp only [Act.put, List.setIfInBounds_toArray, List.set_cons_zero, List.set_cons_succ]
    refine wpAnyH_ready (rs := [15]) (by kernel_rfl) (by simp) (st15 (fun K hK => ?_) AllReadyH.nil)
    obtain ⟨x0, x1, x2, x3, g0, g1, g2, g3⟩ := box4 X1'.out
    go_simp
    have M2 := Lib.hid ((((((M1.out).other NB 0 (.bool true)).other NB 1 (.int .i64 0)).other NB 2 (.int .i64 0)).other NB 3 (.int .i64 0)).bel (Below.refl _ _).drew)
    have F2 := Lib.hid ((((((F1.out).other NF 0 (.bool true)).other NF 1 (.int .i64 0)).other NF 2 (.int .i64 0)).other NF 3 (.int .i64 0)).bel (Below.refl _ _).drew)
    refine hK.out _ _ ?_ (fun hHeld => ?_)
    · exact ⟨M2.out.a0, M2.out.a1, M2.out.a2, M2.out.a3, M2.out.b0, M2.out.b1, M2.out.b2, M2.out.b3, F2.out.f0, F2.out.f1, F2.out.f2, F2.out.f3⟩
    clear hK K
    try simp only [Act.put, List.setIfInBounds_toArray, List.set_cons_zero, List.set_cons_succ]
    refine tk16 (v := ?_) (by kernel_rfl) (by kernel_rfl) (by kernel_rfl) (fun _ _ _ h => h) (Or.inl ⟨by rfl, ?_⟩) hHeld ?_
    rotate_left
    · (intro w hSw; (try dsimp only at hSw); go_simp; try with_reducible rfl)
    simp only [Act.put, List.setIfInBounds_toArray, List.set_cons_zero, List.set_cons_succ]
    refine wpAnyH_done (by kernel_rfl) ?_ _
    go_wp2_with fail
    exact bodyPost_ret (v := .tuple #[.agg #[.bool true, .int .i64 0, .int .i64 0, .int .i64 0], .bool false]) (by simp [results, Try.results74, go_sem, x0, x1, x2, x3]) rfl ⟨by simp [uV, uC, uFlag], (by repeat' (first | (with_reducible exact B1.out) | (with_reducible refine Below.setCell ?_ ?_ _) | (with_reducible refine Below.alloc ?_ ?_ _) | (with_reducible refine Below.drew ?_) | (with_reducible refine below_drewN ?_ _) | (with_reducible exact Below.refl _ _) | omega | (simp; done) | (simp; omega)))⟩
set_option maxRecDepth 100000 in
set_option maxHeartbeats 6000000 in
theorem opAlike (u v : U) (b off c : Nat) (w : World) (h2 : U2 w b off u v) :
    Calls Try.prog 72 #[.slice (some ⟨b, off, none⟩) 2 c] w fun e w' => e = .returned (.tuple #[uV u, .bool (decide (u = v) && !u.f)]) ∧ RowKit.Below w.heap.size w w' := by
  have HE : ∀ (A B : Result Next), (if u.f = v.f then if u.m = v.m then if u.a = v.a then if u.d = v.d then A else B else B else B else B) = if decide (u = v) = true then A else B := fun A B => eqU_if _ _ _ _ _ _ _ _ A B
  have NB : b ≠ w.heap.size := by have := h2.lt; omega
  obtain ⟨W1, hW1⟩ : ∃ W1, W1 = w.alloc (.cells #[.bool false, .int .i64 0, .int .i64 0, .int .i64 0] 29) := ⟨_, rfl⟩
  have B1 := Lib.hid ((Below.refl w.heap.size w).alloc (Nat.le_refl _) (.cells #[.bool false, .int .i64 0, .int .i64 0, .int .i64 0] 29))
  have X1 := Lib.hid (BoxL.new w [.bool false, .int .i64 0, .int .i64 0, .int .i64 0] 29)
  rw [← hW1] at B1
  have X1' : Hid (BoxL W1 w.heap.size [.bool false, .int .i64 0, .int .i64 0, .int .i64 0]) := by rw [hW1]; exact X1.out
  clear X1
  have M1 := Lib.hid (h2.bel B1.out)
  clear h2
  obtain ⟨R, hR⟩ : ∃ R, R = decide (u = v) := ⟨_, rfl⟩
  rw [← hR] at HE ⊢
  clear hR
  obtain ⟨uf, um, ua, ud⟩ := u
  obtain ⟨vf, vm, va, vd⟩ := v
  simp only at HE
  replace HE := Lib.hid HE
  obtain ⟨a0, a1, a2, a3, b0, b1, b2, b3⟩ := M1.out
  cases R with
  | true =>
    go_enter Try.func72, Try.ntmps72
    go_wp2_with fail
    rw [← hW1]
    clear hW1
    have hS : W1.drew.cell? ⟨b, off, none⟩ = some (.bool uf) ∧ W1.drew.cell? ⟨b, off + 1, none⟩ = some (.int .i64 um) ∧ W1.drew.cell? ⟨b, off + 2, none⟩ = some (.int .i64 ua) ∧ W1.drew.cell? ⟨b, off + 3, none⟩ = some (.int .i64 ud) ∧ W1.drew.cell? ⟨b, off + 4, none⟩ = some (.bool vf) ∧ W1.drew.cell? ⟨b, off + 5, none⟩ = some (.int .i64 vm) ∧ W1.drew.cell? ⟨b, off + 6, none⟩ = some (.int .i64 va) ∧ W1.drew.cell? ⟨b, off + 7, none⟩ = some (.int .i64 vd) := ⟨a0, a1, a2, a3, b0, b1, b2, b3⟩
    refine wp_region_held (S := fun w' : World => w'.cell? ⟨b, off, none⟩ = some (.bool uf) ∧ w'.cell? ⟨b, off + 1, none⟩ = some (.int .i64 um) ∧ w'.cell? ⟨b, off + 2, none⟩ = some (.int .i64 ua) ∧ w'.cell? ⟨b, off + 3, none⟩ = some (.int .i64 ud) ∧ w'.cell? ⟨b, off + 4, none⟩ = some (.bool vf) ∧ w'.cell? ⟨b, off + 5, none⟩ = some (.int .i64 vm) ∧ w'.cell? ⟨b, off + 6, none⟩ = some (.int .i64 va) ∧ w'.cell? ⟨b, off + 7, none⟩ = some (.int .i64 vd)) mixed ?_
    change wpAnyH _ _ _ _ _ _ _ _ W1.drew
    refine tk0 (v := ?_) (by kernel_rfl) (by kernel_rfl) (by kernel_rfl) (fun _ _ _ h => h) (Or.inl ⟨by rfl, ?_⟩) hS ?_
    rotate_left
    · (intro w hSw; (try dsimp only at hSw); go_simp; try with_reducible rfl)
    simp only [Act.put, List.setIfInBounds_toArray, List.set_cons_zero, List.set_cons_succ]
    refine tk1 (v := ?_) (by kernel_rfl) (by kernel_rfl) (by kernel_rfl) (fun _ _ _ h => h) (Or.inl ⟨by rfl, ?_⟩) hS ?_
    rotate_left
    · (intro w hSw; (try dsimp only at hSw); go_simp; try with_reducible rfl)
    simp only [Act.put, List.setIfInBounds_toArray, List.set_cons_zero, List.set_cons_succ]
    refine tk2 (v := ?_) (by kernel_rfl) (by kernel_rfl) (by kernel_rfl) (fun _ _ _ h => h) (Or.inl ⟨by rfl, ?_⟩) hS ?_
    rotate_left
    · (intro w hSw; (try dsimp only at hSw); go_simp; try with_reducible rfl)
    simp only [Act.put, List.setIfInBounds_toArray, List.set_cons_zero, List.set_cons_succ]
    refine tk3 (v := ?_) (by kernel_rfl) (by kernel_rfl) (by kernel_rfl) (fun _ _ _ h => h) (Or.inl ⟨by rfl, ?_⟩) hS ?_
    rotate_left
    · (intro w hSw; (try dsimp only at hSw); go_simp; try with_reducible rfl)
    simp only [Act.put, List.setIfInBounds_toArray, List.set_cons_zero, List.set_cons_succ]
    refine tk4 (v := ?_) (by kernel_rfl) (by kernel_rfl) (by kernel_rfl) (fun _ _ _ h => h) (Or.inl ⟨by rfl, ?_⟩) hS ?_
    rotate_left
    · (intro w hSw; (try dsimp only at hSw); go_simp; try with_reducible rfl)
    simp only [Act.put, List.setIfInBounds_toArray, List.set_cons_zero, List.set_cons_succ]
    refine tk5 (v := ?_) (by kernel_rfl) (by kernel_rfl) (by kernel_rfl) (fun _ _ _ h => h) (Or.inl ⟨by rfl, ?_⟩) hS ?_
    rotate_left
    · (intro w hSw; (try dsimp only at hSw); go_simp; try with_reducible rfl)
    simp only [Act.put, List.setIfInBounds_toArray, List.set_cons_zero, List.set_cons_succ]
    refine tk6 (v := ?_) (by kernel_rfl) (by kernel_rfl) (by kernel_rfl) (fun _ _ _ h => h) (Or.inl ⟨by rfl, ?_⟩) hS ?_
    rotate_left
    · (intro w hSw; (try dsimp only at hSw); go_simp; try with_reducible rfl)
    simp only [Act.put, List.setIfInBounds_toArray, List.set_cons_zero, List.set_cons_succ]
    refine tk7 (v := ?_) (by kernel_rfl) (by kernel_rfl) (by kernel_rfl) (fun _ _ _ h => h) (Or.inl ⟨by rfl, ?_⟩) hS ?_
    rotate_left
    · (intro w hSw; (try dsimp only at hSw); go_simp; try with_reducible rfl)
    simp only [Act.put, List.setIfInBounds_toArray, List.set_cons_zero, List.set_cons_succ]
    refine tk8 (v := ?_) (by kernel_rfl) (by kernel_rfl) (by kernel_rfl) (fun _ _ _ h => h) (Or.inl ⟨by rfl, ?_⟩) hS ?_
    rotate_left
    · (intro w hSw; (try dsimp only at hSw); go_simp; try with_reducible rfl)
    simp only [Act.put, List.setIfInBounds_toArray, List.set_cons_zero, List.set_cons_succ]
    refine tk9 (v := .bool true) (by kernel_rfl) (by kernel_rfl) (by kernel_rfl) (fun _ _ _ h => h) (Or.inl ⟨by rfl, (by intro w hSw; (try dsimp only at hSw); go_simp; first | (rw [HE.out]; first | rfl | (cases R <;> rfl)) | (intro h1 h2 h3 h4; have he := HE.out (.ok (.value (.bool true)) w) (.ok (.value (.bool false)) w); simp [h1, h2, h3, h4] at he))⟩) hS ?_
    simp only [Act.put, List.setIfInBounds_toArray, List.set_cons_zero, List.set_cons_succ]
    refine tk10 (v := ?_) (by kernel_rfl) (by kernel_rfl) (by kernel_rfl) (fun _ _ _ h => h) (Or.inl ⟨by rfl, ?_⟩) hS ?_
    rotate_left
    · (intro w hSw; (try dsimp only at hSw); go_simp; try with_reducible rfl)
    simp only [Act.put, List.setIfInBounds_toArray, List.set_cons_zero, List.set_cons_succ]
    refine tk11 (v := ?_) (by kernel_rfl) (by kernel_rfl) (by kernel_rfl) (fun _ _ _ h => h) (Or.inl ⟨by rfl, ?_⟩) hS ?_
    rotate_left
    · (intro w hSw; (try dsimp only at hSw); go_simp; try with_reducible rfl)
    simp only [Act.put, List.setIfInBounds_toArray, List.set_cons_zero, List.set_cons_succ]
    refine tk12 (v := ?_) (by kernel_rfl) (by kernel_rfl) (by kernel_rfl) (fun _ _ _ h => h) (Or.inl ⟨by rfl, ?_⟩) hS ?_
    rotate_left
    · (intro w hSw; (try dsimp only at hSw); go_simp; try with_reducible rfl)
    simp only [Act.put, List.setIfInBounds_toArray, List.set_cons_zero, List.set_cons_succ]
    refine tk13 (v := ?_) (by kernel_rfl) (by kernel_rfl) (by kernel_rfl) (fun _ _ _ h => h) (Or.inl ⟨by rfl, ?_⟩) hS ?_
    rotate_left
    · (intro w hSw; (try dsimp only at hSw); go_simp; try with_reducible rfl)
    simp only [Act.put, List.setIfInBounds_toArray, List.set_cons_zero, List.set_cons_succ]
    refine tk14 (v := ?_) (by kernel_rfl) (by kernel_rfl) (by kernel_rfl) (fun _ _ _ h => h) (Or.inl ⟨by rfl, ?_⟩) hS ?_
    rotate_left
    · (intro w hSw; (try dsimp only at hSw); go_simp; try with_reducible rfl)
    simp only [Act.put, List.setIfInBounds_toArray, List.set_cons_zero, List.set_cons_succ]
    refine tk15 (v := ?_) (by kernel_rfl) (by kernel_rfl) (by kernel_rfl) (fun _ _ _ h => h) (Or.inl ⟨by rfl, ?_⟩) hS ?_
    rotate_left
    · (intro w hSw; (try dsimp only at hSw); go_simp; try with_reducible rfl)
    simp only [Act.put, List.setIfInBounds_toArray, List.set_cons_zero, List.set_cons_succ]
    refine tk16 (v := ?_) (by kernel_rfl) (by kernel_rfl) (by kernel_rfl) (fun _ _ _ h => h) (Or.inl ⟨by rfl, ?_⟩) hS ?_
    rotate_left
    · (intro w hSw; (try dsimp only at hSw); go_simp; try with_reducible rfl)
    simp only [Act.put, List.setIfInBounds_toArray, List.set_cons_zero, List.set_cons_succ]
    refine wpAnyH_ready (rs := [17]) (by kernel_rfl) (by simp) (st17 (fun K hK => ?_) AllReadyH.nil)
    obtain ⟨x0, x1, x2, x3, g0, g1, g2, g3⟩ := box4 X1'.out
    go_simp
    have M2 := Lib.hid ((((((M1.out).other NB 0 (.bool uf)).other NB 1 (.int .i64 um)).other NB 2 (.int .i64 ua)).other NB 3 (.int .i64 ud)).bel (Below.refl _ _).drew)
    refine hK.out _ _ ?_ (fun hHeld => ?_)
    · exact ⟨M2.out.a0, M2.out.a1, M2.out.a2, M2.out.a3, M2.out.b0, M2.out.b1, M2.out.b2, M2.out.b3⟩
    clear hK K
    try simp only [Act.put, List.setIfInBounds_toArray, List.set_cons_zero, List.set_cons_succ]
    refine tk18 (v := ?_) (by kernel_rfl) (by kernel_rfl) (by kernel_rfl) (fun _ _ _ h => h) (Or.inl ⟨by rfl, ?_⟩) hHeld ?_
    rotate_left
    · (intro w hSw; (try dsimp only at hSw); go_simp; try with_reducible rfl)
    simp only [Act.put, List.setIfInBounds_toArray, List.set_cons_zero, List.set_cons_succ]
    refine wpAnyH_done (by kernel_rfl) ?_ _
    go_wp2_with fail
    exact bodyPost_ret (v := .tuple #[.agg #[.bool uf, .int .i64 um, .int .i64 ua, .int .i64 ud], .bool (!uf)]) (by simp [results, Try.results72, go_sem, x0, x1, x2, x3]) rfl ⟨by simp [uV, uC], (by repeat' (first | (with_reducible exact B1.out) | (with_reducible refine Below.setCell ?_ ?_ _) | (with_reducible refine Below.alloc ?_ ?_ _) | (with_reducible refine Below.drew ?_) | (with_reducible refine below_drewN ?_ _) | (with_reducible exact Below.refl _ _) | omega | (simp; done) | (simp; omega)))⟩
  | false =>
    go_enter Try.func72, Try.ntmps72
    go_wp2_with fail
    rw [← hW1]
    clear hW1
    have hS : W1.drew.cell? ⟨b, off, none⟩ = some (.bool uf) ∧ W1.drew.cell? ⟨b, off + 1, none⟩ = some (.int .i64 um) ∧ W1.drew.cell? ⟨b, off + 2, none⟩ = some (.int .i64 ua) ∧ W1.drew.cell? ⟨b, off + 3, none⟩ = some (.int .i64 ud) ∧ W1.drew.cell? ⟨b, off + 4, none⟩ = some (.bool vf) ∧ W1.drew.cell? ⟨b, off + 5, none⟩ = some (.int .i64 vm) ∧ W1.drew.cell? ⟨b, off + 6, none⟩ = some (.int .i64 va) ∧ W1.drew.cell? ⟨b, off + 7, none⟩ = some (.int .i64 vd) := ⟨a0, a1, a2, a3, b0, b1, b2, b3⟩
    refine wp_region_held (S := fun w' : World => w'.cell? ⟨b, off, none⟩ = some (.bool uf) ∧ w'.cell? ⟨b, off + 1, none⟩ = some (.int .i64 um) ∧ w'.cell? ⟨b, off + 2, none⟩ = some (.int .i64 ua) ∧ w'.cell? ⟨b, off + 3, none⟩ = some (.int .i64 ud) ∧ w'.cell? ⟨b, off + 4, none⟩ = some (.bool vf) ∧ w'.cell? ⟨b, off + 5, none⟩ = some (.int .i64 vm) ∧ w'.cell? ⟨b, off + 6, none⟩ = some (.int .i64 va) ∧ w'.cell? ⟨b, off + 7, none⟩ = some (.int .i64 vd)) mixed ?_
    change wpAnyH _ _ _ _ _ _ _ _ W1.drew
    refine tk0 (v := ?_) (by kernel_rfl) (by kernel_rfl) (by kernel_rfl) (fun _ _ _ h => h) (Or.inl ⟨by rfl, ?_⟩) hS ?_
    rotate_left
    · (intro w hSw; (try dsimp only at hSw); go_simp; try with_reducible rfl)
    simp only [Act.put, List.setIfInBounds_toArray, List.set_cons_zero, List.set_cons_succ]
    refine tk1 (v := ?_) (by kernel_rfl) (by kernel_rfl) (by kernel_rfl) (fun _ _ _ h => h) (Or.inl ⟨by rfl, ?_⟩) hS ?_
    rotate_left
    · (intro w hSw; (try dsimp only at hSw); go_simp; try with_reducible rfl)
    simp only [Act.put, List.setIfInBounds_toArray, List.set_cons_zero, List.set_cons_succ]
    refine tk2 (v := ?_) (by kernel_rfl) (by kernel_rfl) (by kernel_rfl) (fun _ _ _ h => h) (Or.inl ⟨by rfl, ?_⟩) hS ?_
    rotate_left
    · (intro w hSw; (try dsimp only at hSw); go_simp; try with_reducible rfl)
    simp only [Act.put, List.setIfInBounds_toArray, List.set_cons_zero, List.set_cons_succ]
    refine tk3 (v := ?_) (by kernel_rfl) (by kernel_rfl) (by kernel_rfl) (fun _ _ _ h => h) (Or.inl ⟨by rfl, ?_⟩) hS ?_
    rotate_left
    · (intro w hSw; (try dsimp only at hSw); go_simp; try with_reducible rfl)
    simp only [Act.put, List.setIfInBounds_toArray, List.set_cons_zero, List.set_cons_succ]
    refine tk4 (v := ?_) (by kernel_rfl) (by kernel_rfl) (by kernel_rfl) (fun _ _ _ h => h) (Or.inl ⟨by rfl, ?_⟩) hS ?_
    rotate_left
    · (intro w hSw; (try dsimp only at hSw); go_simp; try with_reducible rfl)
    simp only [Act.put, List.setIfInBounds_toArray, List.set_cons_zero, List.set_cons_succ]
    refine tk5 (v := ?_) (by kernel_rfl) (by kernel_rfl) (by kernel_rfl) (fun _ _ _ h => h) (Or.inl ⟨by rfl, ?_⟩) hS ?_
    rotate_left
    · (intro w hSw; (try dsimp only at hSw); go_simp; try with_reducible rfl)
    simp only [Act.put, List.setIfInBounds_toArray, List.set_cons_zero, List.set_cons_succ]
    refine tk6 (v := ?_) (by kernel_rfl) (by kernel_rfl) (by kernel_rfl) (fun _ _ _ h => h) (Or.inl ⟨by rfl, ?_⟩) hS ?_
    rotate_left
    · (intro w hSw; (try dsimp only at hSw); go_simp; try with_reducible rfl)
    simp only [Act.put, List.setIfInBounds_toArray, List.set_cons_zero, List.set_cons_succ]
    refine tk7 (v := ?_) (by kernel_rfl) (by kernel_rfl) (by kernel_rfl) (fun _ _ _ h => h) (Or.inl ⟨by rfl, ?_⟩) hS ?_
    rotate_left
    · (intro w hSw; (try dsimp only at hSw); go_simp; try with_reducible rfl)
    simp only [Act.put, List.setIfInBounds_toArray, List.set_cons_zero, List.set_cons_succ]
    refine tk8 (v := ?_) (by kernel_rfl) (by kernel_rfl) (by kernel_rfl) (fun _ _ _ h => h) (Or.inl ⟨by rfl, ?_⟩) hS ?_
    rotate_left
    · (intro w hSw; (try dsimp only at hSw); go_simp; try with_reducible rfl)
    simp only [Act.put, List.setIfInBounds_toArray, List.set_cons_zero, List.set_cons_succ]
    refine tk9 (v := .bool false) (by kernel_rfl) (by kernel_rfl) (by kernel_rfl) (fun _ _ _ h => h) (Or.inl ⟨by rfl, (by intro w hSw; (try dsimp only at hSw); go_simp; first | (rw [HE.out]; first | rfl | (cases R <;> rfl)) | (intro h1 h2 h3 h4; have he := HE.out (.ok (.value (.bool true)) w) (.ok (.value (.bool false)) w); simp [h1, h2, h3, h4] at he))⟩) hS ?_
    simp only [Act.put, List.setIfInBounds_toArray, List.set_cons_zero, List.set_cons_succ]
    refine tk10 (v := ?_) (by kernel_rfl) (by kernel_rfl) (by kernel_rfl) (fun _ _ _ h => h) (Or.inl ⟨by rfl, ?_⟩) hS ?_
    rotate_left
    · (intro w hSw; (try dsimp only at hSw); go_simp; try with_reducible rfl)
    simp only [Act.put, List.setIfInBounds_toArray, List.set_cons_zero, List.set_cons_succ]
    refine tk11 (v := undef) (by kernel_rfl) (by kernel_rfl) (by kernel_rfl) (fun _ _ _ h => h) (Or.inr ⟨by rfl, rfl⟩) hS ?_
    simp only [Act.put, List.setIfInBounds_toArray, List.set_cons_zero, List.set_cons_succ]
    refine tk12 (v := undef) (by kernel_rfl) (by kernel_rfl) (by kernel_rfl) (fun _ _ _ h => h) (Or.inr ⟨by rfl, rfl⟩) hS ?_
    simp only [Act.put, List.setIfInBounds_toArray, List.set_cons_zero, List.set_cons_succ]
    refine tk13 (v := undef) (by kernel_rfl) (by kernel_rfl) (by kernel_rfl) (fun _ _ _ h => h) (Or.inr ⟨by rfl, rfl⟩) hS ?_
    simp only [Act.put, List.setIfInBounds_toArray, List.set_cons_zero, List.set_cons_succ]
    refine tk14 (v := undef) (by kernel_rfl) (by kernel_rfl) (by kernel_rfl) (fun _ _ _ h => h) (Or.inr ⟨by rfl, rfl⟩) hS ?_
    simp only [Act.put, List.setIfInBounds_toArray, List.set_cons_zero, List.set_cons_succ]
    refine tk15 (v := undef) (by kernel_rfl) (by kernel_rfl) (by kernel_rfl) (fun _ _ _ h => h) (Or.inr ⟨by rfl, rfl⟩) hS ?_
    simp only [Act.put, List.setIfInBounds_toArray, List.set_cons_zero, List.set_cons_succ]
    refine tk16 (v := ?_) (by kernel_rfl) (by kernel_rfl) (by kernel_rfl) (fun _ _ _ h => h) (Or.inl ⟨by rfl, ?_⟩) hS ?_
    rotate_left
    · (intro w hSw; (try dsimp only at hSw); go_simp; try with_reducible rfl)
    simp only [Act.put, List.setIfInBounds_toArray, List.set_cons_zero, List.set_cons_succ]
    refine wpAnyH_ready (rs := [17]) (by kernel_rfl) (by simp) (st17 (fun K hK => ?_) AllReadyH.nil)
    obtain ⟨x0, x1, x2, x3, g0, g1, g2, g3⟩ := box4 X1'.out
    go_simp
    have M2 := Lib.hid ((((((M1.out).other NB 0 (.bool uf)).other NB 1 (.int .i64 um)).other NB 2 (.int .i64 ua)).other NB 3 (.int .i64 ud)).bel (Below.refl _ _).drew)
    refine hK.out _ _ ?_ (fun hHeld => ?_)
    · exact ⟨M2.out.a0, M2.out.a1, M2.out.a2, M2.out.a3, M2.out.b0, M2.out.b1, M2.out.b2, M2.out.b3⟩
    clear hK K
    try simp only [Act.put, List.setIfInBounds_toArray, List.set_cons_zero, List.set_cons_succ]
    refine tk18 (v := ?_) (by kernel_rfl) (by kernel_rfl) (by kernel_rfl) (fun _ _ _ h => h) (Or.inl ⟨by rfl, ?_⟩) hHeld ?_
    rotate_left
    · (intro w hSw; (try dsimp only at hSw); go_simp; try with_reducible rfl)
    simp only [Act.put, List.setIfInBounds_toArray, List.set_cons_zero, List.set_cons_succ]
    refine wpAnyH_done (by kernel_rfl) ?_ _
    go_wp2_with fail
    exact bodyPost_ret (v := .tuple #[.agg #[.bool uf, .int .i64 um, .int .i64 ua, .int .i64 ud], .bool false]) (by simp [results, Try.results72, go_sem, x0, x1, x2, x3]) rfl ⟨by simp [uV, uC], (by repeat' (first | (with_reducible exact B1.out) | (with_reducible refine Below.setCell ?_ ?_ _) | (with_reducible refine Below.alloc ?_ ?_ _) | (with_reducible refine Below.drew ?_) | (with_reducible refine below_drewN ?_ _) | (with_reducible exact Below.refl _ _) | omega | (simp; done) | (simp; omega)))⟩
set_option maxRecDepth 100000 in
set_option maxHeartbeats 6000000 in
theorem opChoice (u v x : U) (b off c : Nat) (w : World) (h2 : U2 w b off u v) (h3 : U2 w b (off + 4) v x) :
    Calls Try.prog 77 #[.slice (some ⟨b, off, none⟩) 3 c] w fun e w' => e = .returned (.tuple #[uV v, .bool (u.f && decide (v = x))]) ∧ RowKit.Below w.heap.size w w' := by
  have HE : ∀ (A B : Result Next), (if v.f = x.f then if v.m = x.m then if v.a = x.a then if v.d = x.d then A else B else B else B else B) = if decide (v = x) = true then A else B := fun A B => eqU_if _ _ _ _ _ _ _ _ A B
  have NB : b ≠ w.heap.size := by have := h2.lt; omega
  obtain ⟨W1, hW1⟩ : ∃ W1, W1 = w.alloc (.cells #[.bool false, .int .i64 0, .int .i64 0, .int .i64 0] 29) := ⟨_, rfl⟩
  have B1 := Lib.hid ((Below.refl w.heap.size w).alloc (Nat.le_refl _) (.cells #[.bool false, .int .i64 0, .int .i64 0, .int .i64 0] 29))
  have X1 := Lib.hid (BoxL.new w [.bool false, .int .i64 0, .int .i64 0, .int .i64 0] 29)
  rw [← hW1] at B1
  have X1' : Hid (BoxL W1 w.heap.size [.bool false, .int .i64 0, .int .i64 0, .int .i64 0]) := by rw [hW1]; exact X1.out
  clear X1
  have M1 := Lib.hid (h2.bel B1.out)
  have M3 := Lib.hid (h3.bel B1.out)
  clear h2 h3
  obtain ⟨R, hR⟩ : ∃ R, R = decide (v = x) := ⟨_, rfl⟩
  rw [← hR] at HE ⊢
  clear hR
  obtain ⟨uf, um, ua, ud⟩ := u
  obtain ⟨vf, vm, va, vd⟩ := v
  obtain ⟨xf, xm, xa, xd⟩ := x
  simp only at HE
  replace HE := Lib.hid HE
  obtain ⟨a0, a1, a2, a3, b0, b1, b2, b3⟩ := M1.out
  obtain ⟨-, -, -, -, d0, d1, d2, d3⟩ := M3.out
  simp only [Nat.add_assoc, Nat.reduceAdd] at d0 d1 d2 d3
  cases uf with
  | true =>
    go_enter Try.func77, Try.ntmps77
    go_wp2_with fail
    rw [← hW1]
    clear hW1
    have hS : W1.drew.cell? ⟨b, off, none⟩ = some (.bool true) ∧ W1.drew.cell? ⟨b, off + 1, none⟩ = some (.int .i64 um) ∧ W1.drew.cell? ⟨b, off + 2, none⟩ = some (.int .i64 ua) ∧ W1.drew.cell? ⟨b, off + 3, none⟩ = some (.int .i64 ud) ∧ W1.drew.cell? ⟨b, off + 4, none⟩ = some (.bool vf) ∧ W1.drew.cell? ⟨b, off + 5, none⟩ = some (.int .i64 vm) ∧ W1.drew.cell? ⟨b, off + 6, none⟩ = some (.int .i64 va) ∧ W1.drew.cell? ⟨b, off + 7, none⟩ = some (.int .i64 vd) ∧ W1.drew.cell? ⟨b, off + 8, none⟩ = some (.bool xf) ∧ W1.drew.cell? ⟨b, off + 9, none⟩ = some (.int .i64 xm) ∧ W1.drew.cell? ⟨b, off + 10, none⟩ = some (.int .i64 xa) ∧ W1.drew.cell? ⟨b, off + 11, none⟩ = some (.int .i64 xd) := ⟨a0, a1, a2, a3, b0, b1, b2, b3, d0, d1, d2, d3⟩
    refine wp_region_held (S := fun w' : World => w'.cell? ⟨b, off, none⟩ = some (.bool true) ∧ w'.cell? ⟨b, off + 1, none⟩ = some (.int .i64 um) ∧ w'.cell? ⟨b, off + 2, none⟩ = some (.int .i64 ua) ∧ w'.cell? ⟨b, off + 3, none⟩ = some (.int .i64 ud) ∧ w'.cell? ⟨b, off + 4, none⟩ = some (.bool vf) ∧ w'.cell? ⟨b, off + 5, none⟩ = some (.int .i64 vm) ∧ w'.cell? ⟨b, off + 6, none⟩ = some (.int .i64 va) ∧ w'.cell? ⟨b, off + 7, none⟩ = some (.int .i64 vd) ∧ w'.cell? ⟨b, off + 8, none⟩ = some (.bool xf) ∧ w'.cell? ⟨b, off + 9, none⟩ = some (.int .i64 xm) ∧ w'.cell? ⟨b, off + 10, none⟩ = some (.int .i64 xa) ∧ w'.cell? ⟨b, off + 11, none⟩ = some (.int .i64 xd)) mixed ?_
    change wpAnyH _ _ _ _ _ _ _ _ W1.drew
    refine tk0 (v := ?_) (by kernel_rfl) (by kernel_rfl) (by kernel_rfl) (fun _ _ _ h => h) (Or.inl ⟨by rfl, ?_⟩) hS ?_
    rotate_left
    · (intro w hSw; (try dsimp only at hSw); go_simp; try with_reducible rfl)
    simp only [Act.put, List.setIfInBounds_toArray, List.set_cons_zero, List.set_cons_succ]
    refine tk1 (v := ?_) (by kernel_rfl) (by kernel_rfl) (by kernel_rfl) (fun _ _ _ h => h) (Or.inl ⟨by rfl, ?_⟩) hS ?_
    rotate_left
    · (intro w hSw; (try dsimp only at hSw); go_simp; try with_reducible rfl)
    simp only [Act.put, List.setIfInBounds_toArray, List.set_cons_zero, List.set_cons_succ]
    refine tk2 (v := ?_) (by kernel_rfl) (by kernel_rfl) (by kernel_rfl) (fun _ _ _ h => h) (Or.inl ⟨by rfl, ?_⟩) hS ?_
    rotate_left
    · (intro w hSw; (try dsimp only at hSw); go_simp; try with_reducible rfl)
    simp only [Act.put, List.setIfInBounds_toArray, List.set_cons_zero, List.set_cons_succ]
    refine tk3 (v := ?_) (by kernel_rfl) (by kernel_rfl) (by kernel_rfl) (fun _ _ _ h => h) (Or.inl ⟨by rfl, ?_⟩) hS ?_
    rotate_left
    · (intro w hSw; (try dsimp only at hSw); go_simp; try with_reducible rfl)
    simp only [Act.put, List.setIfInBounds_toArray, List.set_cons_zero, List.set_cons_succ]
    refine tk4 (v := ?_) (by kernel_rfl) (by kernel_rfl) (by kernel_rfl) (fun _ _ _ h => h) (Or.inl ⟨by rfl, ?_⟩) hS ?_
    rotate_left
    · (intro w hSw; (try dsimp only at hSw); go_simp; try with_reducible rfl)
    simp only [Act.put, List.setIfInBounds_toArray, List.set_cons_zero, List.set_cons_succ]
    refine tk5 (v := ?_) (by kernel_rfl) (by kernel_rfl) (by kernel_rfl) (fun _ _ _ h => h) (Or.inl ⟨by rfl, ?_⟩) hS ?_
    rotate_left
    · (intro w hSw; (try dsimp only at hSw); go_simp; try with_reducible rfl)
    simp only [Act.put, List.setIfInBounds_toArray, List.set_cons_zero, List.set_cons_succ]
    refine tk6 (v := ?_) (by kernel_rfl) (by kernel_rfl) (by kernel_rfl) (fun _ _ _ h => h) (Or.inl ⟨by rfl, ?_⟩) hS ?_
    rotate_left
    · (intro w hSw; (try dsimp only at hSw); go_simp; try with_reducible rfl)
    simp only [Act.put, List.setIfInBounds_toArray, List.set_cons_zero, List.set_cons_succ]
    refine tk7 (v := ?_) (by kernel_rfl) (by kernel_rfl) (by kernel_rfl) (fun _ _ _ h => h) (Or.inl ⟨by rfl, ?_⟩) hS ?_
    rotate_left
    · (intro w hSw; (try dsimp only at hSw); go_simp; try with_reducible rfl)
    simp only [Act.put, List.setIfInBounds_toArray, List.set_cons_zero, List.set_cons_succ]
    refine tk8 (v := ?_) (by kernel_rfl) (by kernel_rfl) (by kernel_rfl) (fun _ _ _ h => h) (Or.inl ⟨by rfl, ?_⟩) hS ?_
    rotate_left
    · (intro w hSw; (try dsimp only at hSw); go_simp; try with_reducible rfl)
    simp only [Act.put, List.setIfInBounds_toArray, List.set_cons_zero, List.set_cons_succ]
    refine tk9 (v := ?_) (by kernel_rfl) (by kernel_rfl) (by kernel_rfl) (fun _ _ _ h => h) (Or.inl ⟨by rfl, ?_⟩) hS ?_
    rotate_left
    · (intro w hSw; (try dsimp only at hSw); go_simp; try with_reducible rfl)
    simp only [Act.put, List.setIfInBounds_toArray, List.set_cons_zero, List.set_cons_succ]
    refine tk10 (v := ?_) (by kernel_rfl) (by kernel_rfl) (by kernel_rfl) (fun _ _ _ h => h) (Or.inl ⟨by rfl, ?_⟩) hS ?_
    rotate_left
    · (intro w hSw; (try dsimp only at hSw); go_simp; try with_reducible rfl)
    simp only [Act.put, List.setIfInBounds_toArray, List.set_cons_zero, List.set_cons_succ]
    refine tk11 (v := ?_) (by kernel_rfl) (by kernel_rfl) (by kernel_rfl) (fun _ _ _ h => h) (Or.inl ⟨by rfl, ?_⟩) hS ?_
    rotate_left
    · (intro w hSw; (try dsimp only at hSw); go_simp; try with_reducible rfl)
    simp only [Act.put, List.setIfInBounds_toArray, List.set_cons_zero, List.set_cons_succ]
    refine tk12 (v := ?_) (by kernel_rfl) (by kernel_rfl) (by kernel_rfl) (fun _ _ _ h => h) (Or.inl ⟨by rfl, ?_⟩) hS ?_
    rotate_left
    · (intro w hSw; (try dsimp only at hSw); go_simp; try with_reducible rfl)
    simp only [Act.put, List.setIfInBounds_toArray, List.set_cons_zero, List.set_cons_succ]
    refine tk13 (v := ?_) (by kernel_rfl) (by kernel_rfl) (by kernel_rfl) (fun _ _ _ h => h) (Or.inl ⟨by rfl, ?_⟩) hS ?_
    rotate_left
    · (intro w hSw; (try dsimp only at hSw); go_simp; try with_reducible rfl)
    simp only [Act.put, List.setIfInBounds_toArray, List.set_cons_zero, List.set_cons_succ]
    refine tk14 (v := .bool R) (by kernel_rfl) (by kernel_rfl) (by kernel_rfl) (fun _ _ _ h => h) (Or.inl ⟨by rfl, (by intro w hSw; (try dsimp only at hSw); go_simp; rw [HE.out]; cases R <;> rfl)⟩) hS ?_
    simp only [Act.put, List.setIfInBounds_toArray, List.set_cons_zero, List.set_cons_succ]
    refine tk15 (v := ?_) (by kernel_rfl) (by kernel_rfl) (by kernel_rfl) (fun _ _ _ h => h) (Or.inl ⟨by rfl, ?_⟩) hS ?_
    rotate_left
    · (intro w hSw; (try dsimp only at hSw); go_simp; try with_reducible rfl)
    simp only [Act.put, List.setIfInBounds_toArray, List.set_cons_zero, List.set_cons_succ]
    refine wpAnyH_ready (rs := [16]) (by kernel_rfl) (by simp) (st16 (fun K hK => ?_) AllReadyH.nil)
    obtain ⟨x0, x1, x2, x3, g0, g1, g2, g3⟩ := box4 X1'.out
    go_simp
    have M2 := Lib.hid ((((((M1.out).other NB 0 (.bool vf)).other NB 1 (.int .i64 vm)).other NB 2 (.int .i64 va)).other NB 3 (.int .i64 vd)).bel (Below.refl _ _).drew)
    have M4 := Lib.hid ((((((M3.out).other NB 0 (.bool vf)).other NB 1 (.int .i64 vm)).other NB 2 (.int .i64 va)).other NB 3 (.int .i64 vd)).bel (Below.refl _ _).drew)
    refine hK.out _ _ ?_ (fun hHeld => ?_)
    · exact ⟨M2.out.a0, M2.out.a1, M2.out.a2, M2.out.a3, M2.out.b0, M2.out.b1, M2.out.b2, M2.out.b3, M4.out.b0, M4.out.b1, M4.out.b2, M4.out.b3⟩
    clear hK K
    try simp only [Act.put, List.setIfInBounds_toArray, List.set_cons_zero, List.set_cons_succ]
    refine tk17 (v := ?_) (by kernel_rfl) (by kernel_rfl) (by kernel_rfl) (fun _ _ _ h => h) (Or.inl ⟨by rfl, ?_⟩) hHeld ?_
    rotate_left
    · (intro w hSw; (try dsimp only at hSw); go_simp; try with_reducible rfl)
    simp only [Act.put, List.setIfInBounds_toArray, List.set_cons_zero, List.set_cons_succ]
    refine wpAnyH_done (by kernel_rfl) ?_ _
    go_wp2_with fail
    exact bodyPost_ret (v := .tuple #[.agg #[.bool vf, .int .i64 vm, .int .i64 va, .int .i64 vd], .bool R]) (by simp [results, Try.results77, go_sem, x0, x1, x2, x3]) rfl ⟨by simp [uV, uC], (by repeat' (first | (with_reducible exact B1.out) | (with_reducible refine Below.setCell ?_ ?_ _) | (with_reducible refine Below.alloc ?_ ?_ _) | (with_reducible refine Below.drew ?_) | (with_reducible refine below_drewN ?_ _) | (with_reducible exact Below.refl _ _) | omega | (simp; done) | (simp; omega)))⟩
  | false =>
    go_enter Try.func77, Try.ntmps77
    go_wp2_with fail
    rw [← hW1]
    clear hW1
    have hS : W1.drew.cell? ⟨b, off, none⟩ = some (.bool false) ∧ W1.drew.cell? ⟨b, off + 1, none⟩ = some (.int .i64 um) ∧ W1.drew.cell? ⟨b, off + 2, none⟩ = some (.int .i64 ua) ∧ W1.drew.cell? ⟨b, off + 3, none⟩ = some (.int .i64 ud) ∧ W1.drew.cell? ⟨b, off + 4, none⟩ = some (.bool vf) ∧ W1.drew.cell? ⟨b, off + 5, none⟩ = some (.int .i64 vm) ∧ W1.drew.cell? ⟨b, off + 6, none⟩ = some (.int .i64 va) ∧ W1.drew.cell? ⟨b, off + 7, none⟩ = some (.int .i64 vd) ∧ W1.drew.cell? ⟨b, off + 8, none⟩ = some (.bool xf) ∧ W1.drew.cell? ⟨b, off + 9, none⟩ = some (.int .i64 xm) ∧ W1.drew.cell? ⟨b, off + 10, none⟩ = some (.int .i64 xa) ∧ W1.drew.cell? ⟨b, off + 11, none⟩ = some (.int .i64 xd) := ⟨a0, a1, a2, a3, b0, b1, b2, b3, d0, d1, d2, d3⟩
    refine wp_region_held (S := fun w' : World => w'.cell? ⟨b, off, none⟩ = some (.bool false) ∧ w'.cell? ⟨b, off + 1, none⟩ = some (.int .i64 um) ∧ w'.cell? ⟨b, off + 2, none⟩ = some (.int .i64 ua) ∧ w'.cell? ⟨b, off + 3, none⟩ = some (.int .i64 ud) ∧ w'.cell? ⟨b, off + 4, none⟩ = some (.bool vf) ∧ w'.cell? ⟨b, off + 5, none⟩ = some (.int .i64 vm) ∧ w'.cell? ⟨b, off + 6, none⟩ = some (.int .i64 va) ∧ w'.cell? ⟨b, off + 7, none⟩ = some (.int .i64 vd) ∧ w'.cell? ⟨b, off + 8, none⟩ = some (.bool xf) ∧ w'.cell? ⟨b, off + 9, none⟩ = some (.int .i64 xm) ∧ w'.cell? ⟨b, off + 10, none⟩ = some (.int .i64 xa) ∧ w'.cell? ⟨b, off + 11, none⟩ = some (.int .i64 xd)) mixed ?_
    change wpAnyH _ _ _ _ _ _ _ _ W1.drew
    refine tk0 (v := ?_) (by kernel_rfl) (by kernel_rfl) (by kernel_rfl) (fun _ _ _ h => h) (Or.inl ⟨by rfl, ?_⟩) hS ?_
    rotate_left
    · (intro w hSw; (try dsimp only at hSw); go_simp; try with_reducible rfl)
    simp only [Act.put, List.setIfInBounds_toArray, List.set_cons_zero, List.set_cons_succ]
    refine tk1 (v := ?_) (by kernel_rfl) (by kernel_rfl) (by kernel_rfl) (fun _ _ _ h => h) (Or.inl ⟨by rfl, ?_⟩) hS ?_
    rotate_left
    · (intro w hSw; (try dsimp only at hSw); go_simp; try with_reducible rfl)
    simp only [Act.put, List.setIfInBounds_toArray, List.set_cons_zero, List.set_cons_succ]
    refine tk2 (v := ?_) (by kernel_rfl) (by kernel_rfl) (by kernel_rfl) (fun _ _ _ h => h) (Or.inl ⟨by rfl, ?_⟩) hS ?_
    rotate_left
    · (intro w hSw; (try dsimp only at hSw); go_simp; try with_reducible rfl)
    simp only [Act.put, List.setIfInBounds_toArray, List.set_cons_zero, List.set_cons_succ]
    refine tk3 (v := ?_) (by kernel_rfl) (by kernel_rfl) (by kernel_rfl) (fun _ _ _ h => h) (Or.inl ⟨by rfl, ?_⟩) hS ?_
    rotate_left
    · (intro w hSw; (try dsimp only at hSw); go_simp; try with_reducible rfl)
    simp only [Act.put, List.setIfInBounds_toArray, List.set_cons_zero, List.set_cons_succ]
    refine tk4 (v := ?_) (by kernel_rfl) (by kernel_rfl) (by kernel_rfl) (fun _ _ _ h => h) (Or.inl ⟨by rfl, ?_⟩) hS ?_
    rotate_left
    · (intro w hSw; (try dsimp only at hSw); go_simp; try with_reducible rfl)
    simp only [Act.put, List.setIfInBounds_toArray, List.set_cons_zero, List.set_cons_succ]
    refine tk5 (v := ?_) (by kernel_rfl) (by kernel_rfl) (by kernel_rfl) (fun _ _ _ h => h) (Or.inl ⟨by rfl, ?_⟩) hS ?_
    rotate_left
    · (intro w hSw; (try dsimp only at hSw); go_simp; try with_reducible rfl)
    simp only [Act.put, List.setIfInBounds_toArray, List.set_cons_zero, List.set_cons_succ]
    refine tk6 (v := ?_) (by kernel_rfl) (by kernel_rfl) (by kernel_rfl) (fun _ _ _ h => h) (Or.inl ⟨by rfl, ?_⟩) hS ?_
    rotate_left
    · (intro w hSw; (try dsimp only at hSw); go_simp; try with_reducible rfl)
    simp only [Act.put, List.setIfInBounds_toArray, List.set_cons_zero, List.set_cons_succ]
    refine tk7 (v := ?_) (by kernel_rfl) (by kernel_rfl) (by kernel_rfl) (fun _ _ _ h => h) (Or.inl ⟨by rfl, ?_⟩) hS ?_
    rotate_left
    · (intro w hSw; (try dsimp only at hSw); go_simp; try with_reducible rfl)
    simp only [Act.put, List.setIfInBounds_toArray, List.set_cons_zero, List.set_cons_succ]
    refine tk8 (v := undef) (by kernel_rfl) (by kernel_rfl) (by kernel_rfl) (fun _ _ _ h => h) (Or.inr ⟨by rfl, rfl⟩) hS ?_
    simp only [Act.put, List.setIfInBounds_toArray, List.set_cons_zero, List.set_cons_succ]
    refine tk9 (v := undef) (by kernel_rfl) (by kernel_rfl) (by kernel_rfl) (fun _ _ _ h => h) (Or.inr ⟨by rfl, rfl⟩) hS ?_
    simp only [Act.put, List.setIfInBounds_toArray, List.set_cons_zero, List.set_cons_succ]
    refine tk10 (v := undef) (by kernel_rfl) (by kernel_rfl) (by kernel_rfl) (fun _ _ _ h => h) (Or.inr ⟨by rfl, rfl⟩) hS ?_
    simp only [Act.put, List.setIfInBounds_toArray, List.set_cons_zero, List.set_cons_succ]
    refine tk11 (v := undef) (by kernel_rfl) (by kernel_rfl) (by kernel_rfl) (fun _ _ _ h => h) (Or.inr ⟨by rfl, rfl⟩) hS ?_
    simp only [Act.put, List.setIfInBounds_toArray, List.set_cons_zero, List.set_cons_succ]
    refine tk12 (v := undef) (by kernel_rfl) (by kernel_rfl) (by kernel_rfl) (fun _ _ _ h => h) (Or.inr ⟨by rfl, rfl⟩) hS ?_
    simp only [Act.put, List.setIfInBounds_toArray, List.set_cons_zero, List.set_cons_succ]
    refine tk13 (v := undef) (by kernel_rfl) (by kernel_rfl) (by kernel_rfl) (fun _ _ _ h => h) (Or.inr ⟨by rfl, rfl⟩) hS ?_
    simp only [Act.put, List.setIfInBounds_toArray, List.set_cons_zero, List.set_cons_succ]
    refine tk14 (v := undef) (by kernel_rfl) (by kernel_rfl) (by kernel_rfl) (fun _ _ _ h => h) (Or.inr ⟨by rfl, rfl⟩) hS ?_
    simp only [Act.put, List.setIfInBounds_toArray, List.set_cons_zero, List.set_cons_succ]
    refine tk15 (v := ?_) (by kernel_rfl) (by kernel_rfl) (by kernel_rfl) (fun _ _ _ h => h) (Or.inl ⟨by rfl, ?_⟩) hS ?_
    rotate_left
    · (intro w hSw; (try dsimp only at hSw); go_simp; try with_reducible rfl)
    simp only [Act.put, List.setIfInBounds_toArray, List.set_cons_zero, List.set_cons_succ]
    refine wpAnyH_ready (rs := [16]) (by kernel_rfl) (by simp) (st16 (fun K hK => ?_) AllReadyH.nil)
    obtain ⟨x0, x1, x2, x3, g0, g1, g2, g3⟩ := box4 X1'.out
    go_simp
    have M2 := Lib.hid ((((((M1.out).other NB 0 (.bool vf)).other NB 1 (.int .i64 vm)).other NB 2 (.int .i64 va)).other NB 3 (.int .i64 vd)).bel (Below.refl _ _).drew)
    have M4 := Lib.hid ((((((M3.out).other NB 0 (.bool vf)).other NB 1 (.int .i64 vm)).other NB 2 (.int .i64 va)).other NB 3 (.int .i64 vd)).bel (Below.refl _ _).drew)
    refine hK.out _ _ ?_ (fun hHeld => ?_)
    · exact ⟨M2.out.a0, M2.out.a1, M2.out.a2, M2.out.a3, M2.out.b0, M2.out.b1, M2.out.b2, M2.out.b3, M4.out.b0, M4.out.b1, M4.out.b2, M4.out.b3⟩
    clear hK K
    try simp only [Act.put, List.setIfInBounds_toArray, List.set_cons_zero, List.set_cons_succ]
    refine tk17 (v := ?_) (by kernel_rfl) (by kernel_rfl) (by kernel_rfl) (fun _ _ _ h => h) (Or.inl ⟨by rfl, ?_⟩) hHeld ?_
    rotate_left
    · (intro w hSw; (try dsimp only at hSw); go_simp; try with_reducible rfl)
    simp only [Act.put, List.setIfInBounds_toArray, List.set_cons_zero, List.set_cons_succ]
    refine wpAnyH_done (by kernel_rfl) ?_ _
    go_wp2_with fail
    exact bodyPost_ret (v := .tuple #[.agg #[.bool vf, .int .i64 vm, .int .i64 va, .int .i64 vd], .bool false]) (by simp [results, Try.results77, go_sem, x0, x1, x2, x3]) rfl ⟨by simp [uV, uC], (by repeat' (first | (with_reducible exact B1.out) | (with_reducible refine Below.setCell ?_ ?_ _) | (with_reducible refine Below.alloc ?_ ?_ _) | (with_reducible refine Below.drew ?_) | (with_reducible refine below_drewN ?_ _) | (with_reducible exact Below.refl _ _) | omega | (simp; done) | (simp; omega)))⟩
end Go.Proofs.Ytjifiijgghpniaa
/-
  Contracts of the operators of units: logic and products.
-/
namespace Go.Proofs.Ytjifiijgghpniaa
open Go.RowKit Un

theorem uC_len (u : U) : (uC u).length = 4 := rfl
set_option maxRecDepth 100000 in
set_option maxHeartbeats 4000000 in
theorem uareFlags_any (us : List U) (p : Option Addr) (b off c : Nat) (w : World) (hS : SlR w p b off us.length 4 (us.map uC)) :
    Calls Try.prog 76 #[.slice p us.length c] w fun e w' => e = .returned (.bool (us.all U.f)) ∧ RowKit.Below w.heap.size w w' := by
  have HB := Lib.hid (Below.refl w.heap.size w)
  have HS := Lib.hid hS
  have hmax := hS.max
  obtain ⟨R, hR⟩ : ∃ R, R = us.all U.f := ⟨_, rfl⟩
  rw [← hR]
  have HR := Lib.hid hR
  clear hR hS
  go_enter Try.func76, Try.ntmps76
  go_wp2_with fail
  go_loopg [7] us.length (fun g v7 wr => ∃ i : Nat, i ≤ us.length ∧ us.length - i ≤ g ∧ v7 = .int .i64 i ∧ Hid (R = (us.drop i).all U.f) ∧ Hid (RowKit.Below w.heap.size w wr))
  case atStart => exact ⟨0, Nat.zero_le _, by omega, by simp, HR, HB⟩
  case round =>
    obtain ⟨i, hi, hg, rfl, HM, HW⟩ := hrel
    have hws := HW.out.size
    by_cases hlt : i < us.length
    · have hz : (i : Int) < (us.length : Int) := by omega
      have hq := HS.out.ptr (by omega)
      subst hq
      have hr := (HS.out.bel HW.out).at_ i (uC us[i]) (by rw [List.getElem?_map, List.getElem?_eq_getElem hlt]; rfl)
      have E3 : Hid (R = (us[i].f && (us.drop (i + 1)).all U.f)) := by
        show _ = _
        rw [HM.out, List.drop_eq_getElem_cons hlt]
        rfl
      clear HM
      generalize us[i] = d at *
      obtain ⟨uf, um, ua, ud⟩ := d
      simp only [uC] at hr
      have hc := hr.2
      have z0 := hc 0 _ rfl
      have z1 := hc 1 _ rfl
      have z2 := hc 2 _ rfl
      have z3 := hc 3 _ rfl
      rw [Nat.add_zero] at z0
      have e2 : IntKind.i64.wrap ((i : Int) + 1) = ((i + 1 : Nat) : Int) := by rw [IntWalk.i64_in _ (by omega)]; rfl
      clear hc hr
      cases uf with
      | false =>
        go_wp2_with fail
        go_ret
        exact ⟨ret_bool (by rw [E3.out]; rfl), (by repeat' (first | (with_reducible exact HW.out) | (with_reducible refine Below.setCell ?_ ?_ _) | (with_reducible refine Below.alloc ?_ ?_ _) | (with_reducible refine Below.drew ?_) | (with_reducible refine below_drewN ?_ _) | (with_reducible exact Below.refl _ _) | omega | (simp; done) | (simp; omega)))⟩
      | true =>
        go_wp2_with fail
        go_roundg (us.length - (i + 1))
        case measure => omega
        case rel => exact ⟨i + 1, by omega, Nat.le_refl _, by simp, by show _ = _; rw [E3.out]; rfl, by show RowKit.Below _ _ _; exact (by repeat' (first | (with_reducible exact HW.out) | (with_reducible refine Below.setCell ?_ ?_ _) | (with_reducible refine Below.alloc ?_ ?_ _) | (with_reducible refine Below.drew ?_) | (with_reducible refine below_drewN ?_ _) | (with_reducible exact Below.refl _ _) | omega | (simp; done) | (simp; omega)))⟩
    · have hz : ¬ (i : Int) < (us.length : Int) := by omega
      have hie : i = us.length := by omega
      subst hie
      go_wp2_with fail
      go_ret
      exact ⟨ret_bool (by rw [HM.out, List.drop_length]; rfl), HW.out⟩
set_option maxRecDepth 100000 in
set_option maxHeartbeats 4000000 in
theorem uareExps_any (xs : List Int) (p : Option Addr) (b off c : Nat) (w : World) (hS : SlR w p b off xs.length 1 (xs.map fun x => [.int .i64 x])) :
    Calls Try.prog 91 #[.slice p xs.length c] w fun e w' => e = .returned (.bool (xs.all expo)) ∧ w' = w := by
  have HS := Lib.hid hS
  have hmax := hS.max
  obtain ⟨R, hR⟩ : ∃ R, R = xs.all expo := ⟨_, rfl⟩
  rw [← hR]
  have HR := Lib.hid hR
  clear hR hS
  go_enter Try.func91, Try.ntmps91
  go_wp2_with fail
  go_loopg [7] xs.length (fun g v7 wr => ∃ i : Nat, i ≤ xs.length ∧ xs.length - i ≤ g ∧ v7 = .int .i64 i ∧ Hid (R = (xs.drop i).all expo) ∧ wr = w)
  case atStart => exact ⟨0, Nat.zero_le _, by omega, by simp, HR, rfl⟩
  case round =>
    obtain ⟨i, hi, hg, rfl, HM, rfl⟩ := hrel
    by_cases hlt : i < xs.length
    · have hz : (i : Int) < (xs.length : Int) := by omega
      have hq := HS.out.ptr (by omega)
      subst hq
      have hr := HS.out.at_ i [.int .i64 xs[i]] (by rw [List.getElem?_map, List.getElem?_eq_getElem hlt]; rfl)
      have E3 : Hid (R = (expo xs[i] && (xs.drop (i + 1)).all expo)) := by
        show _ = _
        rw [HM.out, List.drop_eq_getElem_cons hlt]
        rfl
      clear HM
      generalize xs[i] = d at *
      have z0 := hr.2 0 _ rfl
      rw [Nat.add_zero, Nat.mul_one] at z0
      have e2 : IntKind.i64.wrap ((i : Int) + 1) = ((i + 1 : Nat) : Int) := by rw [IntWalk.i64_in _ (by omega)]; rfl
      clear hr
      by_cases h1 : d < -3
      · go_wp2_with fail
        go_ret
        exact ⟨ret_bool (by rw [E3.out]; unfold expo; rw [decide_eq_false (by omega)]; rfl), rfl⟩
      · by_cases h2 : 3 < d
        · go_wp2_with fail
          go_ret
          exact ⟨ret_bool (by rw [E3.out]; unfold expo; rw [decide_eq_false (p := d ≤ 3) (by omega), Bool.and_false]; rfl), rfl⟩
        · go_wp2_with fail
          go_roundg (xs.length - (i + 1))
          case measure => omega
          case rel => exact ⟨i + 1, by omega, Nat.le_refl _, by simp, by show _ = _; rw [E3.out]; unfold expo; rw [decide_eq_true (p := d ≤ 3) (by omega), decide_eq_true (by omega)]; rfl, rfl⟩
    · have hz : ¬ (i : Int) < (xs.length : Int) := by omega
      have hie : i = xs.length := by omega
      subst hie
      go_wp2_with fail
      go_ret
      exact ⟨ret_bool (by rw [HM.out, List.drop_length]; rfl), rfl⟩
theorem uproduct_any (s : Int) (w : World) : Calls Try.prog 78 #[.int .i64 s] w fun e w' => e = .returned (.func (.func 90) #[] #[.pointer (some ⟨w.heap.size, 0, none⟩)]) ∧ w'.cell? ⟨w.heap.size, 0, none⟩ = some (.int .i64 s) ∧ RowKit.Below w.heap.size w w' := by
  have hmf : ∀ (fn : Fn) (first cap : Array Value) (w : World), (Instr.makeFunc fn first cap).run Try.prog w = .ok (.func fn first cap) w := fun _ _ _ _ => rfl
  have HB := Lib.hid (Below.refl w.heap.size w)
  go_enter Try.func78, Try.ntmps78
  go_wp2_with fail
  go_ret
  exact ⟨rfl, by simp, (by repeat' (first | (with_reducible exact HB.out) | (with_reducible refine Below.setCell ?_ ?_ _) | (with_reducible refine Below.alloc ?_ ?_ _) | (with_reducible refine Below.drew ?_) | (with_reducible refine below_drewN ?_ _) | (with_reducible exact Below.refl _ _) | omega | (simp; done) | (simp; omega)))⟩
set_option maxRecDepth 100000 in
set_option maxHeartbeats 6000000 in
theorem opLogic (us : List U) (p : Option Addr) (b off c fb : Nat) (w : World) (hS : SlR w p b off us.length 4 (us.map uC)) (hf : FlagM w fb) :
    Calls Try.prog 75 #[.slice p us.length c, .pointer (some ⟨fb, 0, none⟩)] w fun e w' => e = .returned (.tuple #[uV uFlag, .bool (us.all U.f)]) ∧ RowKit.Below w.heap.size w w' := by
  have KF := Lib.hid (fun w hS => uareFlags_any us p b off c w hS)
  have NF : fb ≠ w.heap.size := by have := hf.lt; omega
  have NB : 0 < us.length → b ≠ w.heap.size := fun h => by have := hS.lt h; omega
  obtain ⟨W1, hW1⟩ : ∃ W1, W1 = w.alloc (.cells #[.bool false, .int .i64 0, .int .i64 0, .int .i64 0] 29) := ⟨_, rfl⟩
  have B1 := Lib.hid ((Below.refl w.heap.size w).alloc (Nat.le_refl _) (.cells #[.bool false, .int .i64 0, .int .i64 0, .int .i64 0] 29))
  have X1 := Lib.hid (BoxL.new w [.bool false, .int .i64 0, .int .i64 0, .int .i64 0] 29)
  rw [← hW1] at B1
  have X1' : Hid (BoxL W1 w.heap.size [.bool false, .int .i64 0, .int .i64 0, .int .i64 0]) := by rw [hW1]; exact X1.out
  have hs1 : W1.heap.size = w.heap.size + 1 := by rw [hW1]; simp
  clear X1
  have S1 := Lib.hid (hS.bel B1.out)
  have F1 := Lib.hid (hf.bel B1.out)
  clear hS hf
  generalize us.all U.f = R at *
  obtain ⟨f0, f1, f2, f3⟩ := F1.out
  go_enter Try.func75, Try.ntmps75
  go_wp2_with fail
  rw [← hW1]
  clear hW1
  have hS : W1.drew.cell? ⟨fb, 0, none⟩ = some (.bool true) ∧ W1.drew.cell? ⟨fb, 1, none⟩ = some (.int .i64 0) ∧ W1.drew.cell? ⟨fb, 2, none⟩ = some (.int .i64 0) ∧ W1.drew.cell? ⟨fb, 3, none⟩ = some (.int .i64 0) := ⟨f0, f1, f2, f3⟩
  refine wp_region_held (S := fun w' : World => w'.cell? ⟨fb, 0, none⟩ = some (.bool true) ∧ w'.cell? ⟨fb, 1, none⟩ = some (.int .i64 0) ∧ w'.cell? ⟨fb, 2, none⟩ = some (.int .i64 0) ∧ w'.cell? ⟨fb, 3, none⟩ = some (.int .i64 0)) mixed ?_
  change wpAnyH _ _ _ _ _ _ _ _ W1.drew
  refine tk0 (v := ?_) (by kernel_rfl) (by kernel_rfl) (by kernel_rfl) (fun _ _ _ h => h) (Or.inl ⟨by rfl, ?_⟩) hS ?_
  rotate_left
  · (intro w hSw; (try dsimp only at hSw); go_simp; try with_reducible rfl)
  simp only [Act.put, List.setIfInBounds_toArray, List.set_cons_zero, List.set_cons_succ]
  refine tk1 (v := ?_) (by kernel_rfl) (by kernel_rfl) (by kernel_rfl) (fun _ _ _ h => h) (Or.inl ⟨by rfl, ?_⟩) hS ?_
  rotate_left
  · (intro w hSw; (try dsimp only at hSw); go_simp; try with_reducible rfl)
  simp only [Act.put, List.setIfInBounds_toArray, List.set_cons_zero, List.set_cons_succ]
  refine wpAnyH_ready (rs := [2]) (by kernel_rfl) (by simp) (st2 (fun K hK => ?_) AllReadyH.nil)
  go_simp
  refine (KF.out _ (S1.out.bel (Below.refl _ _).drew)).mono ?_
  rintro _ v ⟨rfl, hb⟩
  have hdr := (Below.refl W1.heap.size W1).drew.trans hb
  have F2 := Lib.hid (F1.out.bel hdr)
  have X2 := Lib.hid (X1'.out.bel (by simp) hdr)
  have B2 : Hid (RowKit.Below w.heap.size w v) := B1.out.trans (hdr.mono (by omega))
  clear hb hdr X1' F1 S1 KF
  go_wp2_with fail
  refine hK.out _ _ ?_ (fun hHeld => ?_)
  · exact ⟨F2.out.f0, F2.out.f1, F2.out.f2, F2.out.f3⟩
  clear hK K
  try simp only [Act.put, List.setIfInBounds_toArray, List.set_cons_zero, List.set_cons_succ]
  refine wpAnyH_ready (rs := [3]) (by kernel_rfl) (by simp) (st3 (fun K hK => ?_) AllReadyH.nil)
  obtain ⟨x0, x1, x2, x3, g0, g1, g2, g3⟩ := box4 X2.out
  go_simp
  have F3 := Lib.hid ((((F2.out.other NF 0 (.bool true)).other NF 1 (.int .i64 0)).other NF 2 (.int .i64 0)).other NF 3 (.int .i64 0))
  refine hK.out _ _ ?_ (fun hHeld => ?_)
  · exact ⟨F3.out.f0, F3.out.f1, F3.out.f2, F3.out.f3⟩
  clear hK K
  try simp only [Act.put, List.setIfInBounds_toArray, List.set_cons_zero, List.set_cons_succ]
  refine tk4 (v := ?_) (by kernel_rfl) (by kernel_rfl) (by kernel_rfl) (fun _ _ _ h => h) (Or.inl ⟨by rfl, ?_⟩) hHeld ?_
  rotate_left
  · (intro w hSw; (try dsimp only at hSw); go_simp; try with_reducible rfl)
  simp only [Act.put, List.setIfInBounds_toArray, List.set_cons_zero, List.set_cons_succ]
  refine wpAnyH_done (by kernel_rfl) ?_ _
  go_wp2_with fail
  exact bodyPost_ret (v := .tuple #[.agg #[.bool true, .int .i64 0, .int .i64 0, .int .i64 0], .bool R]) (by simp [results, Try.results75, go_sem, x0, x1, x2, x3]) rfl ⟨by simp [uV, uC, uFlag], (by repeat' (first | (with_reducible exact B2.out) | (with_reducible refine Below.setCell ?_ ?_ _) | (with_reducible refine Below.alloc ?_ ?_ _) | (with_reducible refine Below.drew ?_) | (with_reducible refine below_drewN ?_ _) | (with_reducible exact Below.refl _ _) | omega | (simp; done) | (simp; omega)))⟩
end Go.Proofs.Ytjifiijgghpniaa
