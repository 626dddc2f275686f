/-
  By-laws that are put together: two rows and a box that are made in any order.
  The law on two sources: with a line end between them they have the facts and rules of both, unless these are too many.
-/
import Derived.Test.YtedbpjcglnkjmaaGreatDoorZR
import Derived.Test.YtedbpjcglnkjmaaGreatDoorZP
namespace Go.Proofs.YtedbpjcglnkjmaaGreatDoor
open Go.RowKit Lx Pa

theorem wp_slice0 {P : Program} {o : Oper} {a : Act} {w w' : World} {K : Act → World → Prop} {Q : Exit → Act → World → Prop} {t : TypeId} {v : Value} (ho : o.op = .buildSlice t 0 #[]) (hr : (Instr.buildSlice t 0 #[]).run P w = .ok v w') (h : K (a.put o.dst v) w') : Oper.wp P o a w K Q := by
  unfold Oper.wp execOp
  simp only [ho, Sem.run_bind, Sem.run_pure, List.map_toArray, List.map_nil, hr]
  exact h
theorem slice0_D (w : World) : (Instr.buildSlice 23 0 #[]).run Tryz.prog w = .ok (.slice (some ⟨w.heap.size, 0, none⟩) 0 0) (w.alloc (.cells #[] 59)) := by kernel_rfl
theorem slice0_R (w : World) : (Instr.buildSlice 24 0 #[]).run Tryz.prog w = .ok (.slice (some ⟨w.heap.size, 0, none⟩) 0 0) (w.alloc (.cells #[] 63)) := by kernel_rfl
theorem alloc_cx (w : World) : (Instr.alloc 26 true (.tuple #[])).run Tryz.prog w = .ok (.pointer (some ⟨w.heap.size, 0, none⟩)) (w.alloc (.cells #[nilS, nilS] 26)) := by kernel_rfl
theorem app_nothing (sl E : Nat) (i : TypeInfo) (hsl : Tryz.prog.underlying sl = some (.slice E)) (hi : Tryz.prog.info? E = some i) (w : World) (ty : TypeId) (q p : Option Addr) (n c cp : Nat) (hle : n ≤ c) : (Builtin.append_ #[sl, sl] ty #[.slice q n c, .slice p 0 cp]).run Tryz.prog w = .ok (.slice q n c) w := by
  cases q <;> cases p <;> simp [Builtin.append_, Builtin.lenOf, Builtin.firstCells, run_underlying hsl, sizeOf, typeInfo, hi, hle, storeCells, loadCells, loadCellsFrom]
theorem own_le {w : World} {base E size n c : Nat} {q : Option Addr} {xs : List Value} (h : w.ownsRow base E size (.slice q n c) n xs) : n ≤ c := by
  rcases h.2 with ⟨h1, h2⟩ | ⟨g, cap, cur, h1, _, _, h2, _⟩
  · omega
  · simp only [Value.slice.injEq] at h1; omega
/-- What came in is appended onto a slice of the call's own. -/
theorem own_cat (sl E size : Nat) (hsl : Tryz.prog.underlying sl = some (.slice E)) (hi : (Tryz.prog.info? E).map (fun i => (i.zero.map (·.cells.size), i.size, decide (i.bytes ≤ 1000))) = some (some size, size, true)) (hs : 0 < size)
    (w : World) (base : Nat) (ty : TypeId) (q : Option Addr) (n c : Nat) (xs : List Value) (hown : w.ownsRow base E size (.slice q n c) n xs) (p : Option Addr) (m cp : Nat) (news : List Value) (hsrc : 0 < m → ∃ g, p = some ⟨g, 0, none⟩ ∧ RowAt w g news) (hl : news.length = m * size) (h1 : ∀ u ∈ news, u.oneCell' = true) (hn : n + m ≤ 1000000) (hbase : base ≤ w.heap.size) :
    ∃ q' c' w', (Builtin.append_ #[sl, sl] ty #[.slice q n c, .slice p m cp]).run Tryz.prog w = .ok (.slice q' (n + m) c') w' ∧ w'.ownsRow base E size (.slice q' (n + m) c') (n + m) (xs ++ news) ∧ w.grownBy w' (Value.slice q n c).ownBlock ∧ ((Value.slice q' (n + m) c').ownBlock = (Value.slice q n c).ownBlock ∨ (Value.slice q' (n + m) c').ownBlock = some w.heap.size) := by
  obtain ⟨i, hi, hz⟩ := Option.map_eq_some_iff.1 hi
  simp only [Prod.mk.injEq, decide_eq_true_eq] at hz
  obtain ⟨hz1, hz2, hz3⟩ := hz
  obtain ⟨z, hz, hzs⟩ := Option.map_eq_some_iff.1 hz1
  by_cases h0 : m = 0
  · subst h0
    obtain rfl : news = [] := List.length_eq_zero_iff.1 (by rw [hl]; simp)
    refine ⟨q, c, w, app_nothing sl E i hsl hi w ty q p n c cp (own_le hown), ?_, ⟨rfl, rfl, rfl, Nat.le_refl _, fun _ _ _ => rfl⟩, .inl rfl⟩
    rw [Nat.add_zero, List.append_nil]; exact hown
  · obtain ⟨g, rfl, hr⟩ := hsrc (by omega)
    obtain ⟨v', w', hr, h3, h4, _, h6⟩ := run_append_own_at (P := Tryz.prog) w base sl ty E i z size i.bytes hsl hi hz hz2 rfl hzs hs (.slice q n c) n xs hown ⟨g, 0, none⟩ m cp news hl
      (fun j u hu => by rw [addr_add, Nat.zero_add]; exact hr j u hu) h1 (by unfold maxLen; omega) (by
        have : (n + m) * i.bytes ≤ 1000000 * 1000 := Nat.mul_le_mul (by omega) hz3
        omega) hbase
    obtain ⟨q', c', rfl⟩ := own_slice h3
    exact ⟨q', c', w', hr, h3, h4, h6⟩
/-- A slice that is under way. -/
structure Sl3 where
  q : Option Addr
  n : Nat
  c : Nat
  xs : List Value
def Sl3.v (s : Sl3) : Value := .slice s.q s.n s.c
/-- What is made so far: the row of facts, the row of rules, the box. -/
structure JS (W w : World) (A B : Option Sl3) (X : Option Nat) : Prop where
  bel : RowKit.Below W.heap.size W w
  oa : ∀ s, A = some s → w.ownsRow W.heap.size 59 8 (.slice s.q s.n s.c) s.n s.xs
  ob : ∀ s, B = some s → w.ownsRow W.heap.size 63 28 (.slice s.q s.n s.c) s.n s.xs
  ox : ∀ b, X = some b → At2 w b nilS nilS ∧ W.heap.size ≤ b
  ab : ∀ s t, A = some s → B = some t → ∀ j, (Value.slice s.q s.n s.c).ownBlock = some j → (Value.slice t.q t.n t.c).ownBlock ≠ some j
  ax : ∀ s b, A = some s → X = some b → (Value.slice s.q s.n s.c).ownBlock ≠ some b
  bx : ∀ s b, B = some s → X = some b → (Value.slice s.q s.n s.c).ownBlock ≠ some b
section
variable {W w : World} {A B : Option Sl3} {X : Option Nat}
theorem JS.start (W : World) : JS W W.drew none none none := ⟨(Below.refl _ _).drew, fun _ h => (by cases h), fun _ h => (by cases h), fun _ h => (by cases h), fun _ _ h => (by cases h), fun _ _ h => (by cases h), fun _ _ h => (by cases h)⟩
theorem own_new (w : World) (base E size : Nat) (hb : base ≤ w.heap.size) : (w.alloc (.cells #[] E)).ownsRow base E size (.slice (some ⟨w.heap.size, 0, none⟩) 0 0) 0 [] := by
  refine ⟨by simp, .inr ⟨w.heap.size, 0, #[], rfl, hb, heap_alloc_new w _, Nat.le_refl _, Nat.zero_le _, by simp, by simp⟩⟩
theorem own_alloc {base E size n : Nat} {v : Value} {xs : List Value} (h : w.ownsRow base E size v n xs) (o : Obj) : (w.alloc o).ownsRow base E size v n xs := own_heap h fun j _ hj => ((Below.refl w.heap.size w).alloc (Nat.le_refl _) o).block j hj
theorem JS.mkA (h : JS W w none B X) : ∃ q c w', (Instr.buildSlice 23 0 #[]).run Tryz.prog w = .ok (.slice q 0 c) w' ∧ JS W w' (some ⟨q, 0, c, []⟩) B X := by
  have hz := h.bel.size
  refine ⟨_, _, _, slice0_D w, h.bel.alloc hz _, fun s e => ?_, fun s e => own_alloc (h.ob s e) _, fun b e => ⟨(h.ox b e).1.bel ((Below.refl _ _).alloc (Nat.le_refl _) _), (h.ox b e).2⟩, fun s t e1 e2 j hj k => ?_, fun s b e1 e2 k => ?_, h.bx⟩
  · cases e; exact own_new w _ _ _ hz
  · cases e1
    have := (h.ob t e2).lt j k
    simp only [Value.ownBlock, Option.some.injEq] at hj
    omega
  · cases e1
    have := (h.ox b e2).1.lt
    simp only [Value.ownBlock, Option.some.injEq] at k
    omega
theorem JS.mkB (h : JS W w A none X) : ∃ q c w', (Instr.buildSlice 24 0 #[]).run Tryz.prog w = .ok (.slice q 0 c) w' ∧ JS W w' A (some ⟨q, 0, c, []⟩) X := by
  have hz := h.bel.size
  refine ⟨_, _, _, slice0_R w, h.bel.alloc hz _, fun s e => own_alloc (h.oa s e) _, fun s e => ?_, fun b e => ⟨(h.ox b e).1.bel ((Below.refl _ _).alloc (Nat.le_refl _) _), (h.ox b e).2⟩, fun s t e1 e2 j hj k => ?_, h.ax, fun s b e1 e2 k => ?_⟩
  · cases e; exact own_new w _ _ _ hz
  · cases e2
    have := (h.oa s e1).lt j hj
    simp only [Value.ownBlock, Option.some.injEq] at k
    omega
  · cases e1
    have := (h.ox b e2).1.lt
    simp only [Value.ownBlock, Option.some.injEq] at k
    omega
theorem JS.mkX (h : JS W w A B none) : ∃ b w', (Instr.alloc 26 true (.tuple #[])).run Tryz.prog w = .ok (.pointer (some ⟨b, 0, none⟩)) w' ∧ JS W w' A B (some b) := by
  have hz := h.bel.size
  refine ⟨_, _, alloc_cx w, h.bel.alloc hz _, fun s e => own_alloc (h.oa s e) _, fun s e => own_alloc (h.ob s e) _, fun b e => ?_, h.ab, fun s b e1 e2 k => ?_, fun s b e1 e2 k => ?_⟩
  · cases e; exact ⟨At2.new w nilS nilS _, hz⟩
  · cases e2; have := ((h.oa s e1).lt _ k).2; omega
  · cases e2; have := ((h.ob s e1).lt _ k).2; omega
theorem At2.grown {w' : World} {b : Nat} {x y : Value} {r : Option Nat} (h : At2 w b x y) (hg : w.grownBy w' r) (hr : some b ≠ r) : At2 w' b x y := h.heap (hg.block b h.lt hr)
theorem own_grown {w' : World} {base E size n : Nat} {v : Value} {xs : List Value} {r : Option Nat} (h : w.ownsRow base E size v n xs) (hg : w.grownBy w' r) (hr : ∀ j, v.ownBlock = some j → some j ≠ r) : w'.ownsRow base E size v n xs := own_heap h fun j hj hj2 => hg.block j hj2 (hr j hj)
theorem JS.apA {s : Sl3} (h : JS W w (some s) B X) (p : Option Addr) (m cp : Nat) (news : List Value) (hsrc : 0 < m → ∃ g, p = some ⟨g, 0, none⟩ ∧ RowAt W g news) (hl : news.length = m * 8) (h1 : ∀ u ∈ news, u.oneCell' = true) (hn : s.n + m ≤ 1000000) :
    ∃ q c w', (Builtin.append_ #[23, 23] 23 #[.slice s.q s.n s.c, .slice p m cp]).run Tryz.prog w = .ok (.slice q (s.n + m) c) w' ∧ JS W w' (some ⟨q, s.n + m, c, s.xs ++ news⟩) B X := by
  have hz := h.bel.size
  obtain ⟨q, c, w', hr, ho, hg, hb⟩ := own_cat 23 59 8 Tryz.underlying23 info_D (by decide) w W.heap.size 23 s.q s.n s.c s.xs (h.oa s rfl) p m cp news (fun h0 => by
    obtain ⟨g, e, hr⟩ := hsrc h0; exact ⟨g, e, hr.bel' h.bel⟩) hl h1 hn hz
  refine ⟨q, c, w', hr, h.bel.grown hg hz (fun j hj => ((h.oa s rfl).lt j hj).1), fun t e => ?_, fun t e => own_grown (h.ob t e) hg (fun j hj k => h.ab s t rfl e j k.symm hj), fun b e => ⟨(h.ox b e).1.grown hg (fun k => h.ax s b rfl e k.symm), (h.ox b e).2⟩, fun t u e1 e2 j hj k => ?_, fun t b e1 e2 k => ?_, h.bx⟩
  · cases e; exact ho
  · cases e1
    rcases hb with hb | hb
    · exact h.ab s u rfl e2 j (hb ▸ hj) k
    · have := ((h.ob u e2).lt j k).2
      rw [hb] at hj
      simp only [Option.some.injEq] at hj
      omega
  · cases e1
    rcases hb with hb | hb
    · exact h.ax s b rfl e2 (hb ▸ k)
    · have := (h.ox b e2).1.lt
      rw [hb] at k
      simp only [Option.some.injEq] at k
      omega
theorem JS.apB {s : Sl3} (h : JS W w A (some s) X) (p : Option Addr) (m cp : Nat) (news : List Value) (hsrc : 0 < m → ∃ g, p = some ⟨g, 0, none⟩ ∧ RowAt W g news) (hl : news.length = m * 28) (h1 : ∀ u ∈ news, u.oneCell' = true) (hn : s.n + m ≤ 1000000) :
    ∃ q c w', (Builtin.append_ #[24, 24] 24 #[.slice s.q s.n s.c, .slice p m cp]).run Tryz.prog w = .ok (.slice q (s.n + m) c) w' ∧ JS W w' A (some ⟨q, s.n + m, c, s.xs ++ news⟩) X := by
  have hz := h.bel.size
  obtain ⟨q, c, w', hr, ho, hg, hb⟩ := own_cat 24 63 28 Tryz.underlying24 info_R (by decide) w W.heap.size 24 s.q s.n s.c s.xs (h.ob s rfl) p m cp news (fun h0 => by
    obtain ⟨g, e, hr⟩ := hsrc h0; exact ⟨g, e, hr.bel' h.bel⟩) hl h1 hn hz
  refine ⟨q, c, w', hr, h.bel.grown hg hz (fun j hj => ((h.ob s rfl).lt j hj).1), fun t e => own_grown (h.oa t e) hg (fun j hj k => h.ab t s e rfl j hj k.symm), fun t e => ?_, fun b e => ⟨(h.ox b e).1.grown hg (fun k => h.bx s b rfl e k.symm), (h.ox b e).2⟩, fun t u e1 e2 j hj k => ?_, h.ax, fun t b e1 e2 k => ?_⟩
  · cases e; exact ho
  · cases e2
    rcases hb with hb | hb
    · exact h.ab t s e1 rfl j hj (hb ▸ k)
    · have := ((h.oa t e1).lt j hj).2
      rw [hb] at k
      simp only [Option.some.injEq] at k
      omega
  · cases e1
    rcases hb with hb | hb
    · exact h.bx s b rfl e2 (hb ▸ k)
    · have := (h.ox b e2).1.lt
      rw [hb] at k
      simp only [Option.some.injEq] at k
      omega
/-- What lies there when both rows are in the box. -/
structure JF (W w : World) (b : Nat) (s t : Sl3) : Prop where
  bel : RowKit.Below W.heap.size W w
  at2 : At2 w b (.slice s.q s.n s.c) (.slice t.q t.n t.c)
  ra : 0 < s.n → ∃ g, s.q = some ⟨g, 0, none⟩ ∧ RowAt w g s.xs
  rb : 0 < t.n → ∃ g, t.q = some ⟨g, 0, none⟩ ∧ RowAt w g t.xs
theorem JS.fin {s t : Sl3} {b : Nat} (h : JS W w (some s) (some t) (some b)) : JF W ((w.setCell ⟨b, 0, none⟩ (.slice s.q s.n s.c)).setCell ⟨b, 1, none⟩ (.slice t.q t.n t.c)) b s t := by
  obtain ⟨⟨c0, c1, f0, f1⟩, hb⟩ := h.ox b rfl
  refine ⟨(h.bel.setCell (p := ⟨b, 0, none⟩) hb _).setCell (p := ⟨b, 1, none⟩) hb _, ⟨by simp [go_sem, c0], by simp [go_sem, c1], by simp [World.frozen?_setCell, f0], by simp [World.frozen?_setCell, f1]⟩, fun h0 => ?_, fun h0 => ?_⟩
  · obtain ⟨g, cap, e, _, hg, hr, _⟩ := own_at (h.oa s rfl) h0
    simp only [Value.slice.injEq] at e
    have hne : g ≠ b := fun k => h.ax s b rfl rfl (by rw [e.1, k]; rfl)
    exact ⟨g, e.1, hr.of ((Below.heap_setCell _ _ _ _ hne).trans (Below.heap_setCell _ _ _ _ hne))⟩
  · obtain ⟨g, cap, e, _, hg, hr, _⟩ := own_at (h.ob t rfl) h0
    simp only [Value.slice.injEq] at e
    have hne : g ≠ b := fun k => h.bx t b rfl rfl (by rw [e.1, k]; rfl)
    exact ⟨g, e.1, hr.of ((Below.heap_setCell _ _ _ _ hne).trans (Below.heap_setCell _ _ _ _ hne))⟩
end
theorem one_dV (f : Nat → Int) (ds : List Decl) : ∀ u ∈ ds.flatMap (dV f), u.oneCell' = true := fun u hu => by
  obtain ⟨d, -, h⟩ := List.mem_flatMap.1 hu
  simp only [dV, List.mem_cons, List.not_mem_nil, or_false] at h
  rcases h with rfl | rfl | rfl | rfl | rfl | rfl | rfl | rfl <;> rfl
theorem one_rV (f : Nat → Int) : ∀ (rs : List Rule) (ns : List (NV × NV)), ∀ u ∈ rFlat f rs ns, u.oneCell' = true
  | [], ns, u, hu => by cases ns <;> simp [rFlat] at hu
  | r :: rs, [], u, hu => by simp [rFlat] at hu
  | r :: rs, x :: ns, u, hu => by
    simp only [rFlat, List.mem_append] at hu
    rcases hu with hu | hu
    · simp only [rV, NV.cells, List.mem_append, List.mem_cons, List.not_mem_nil, or_false] at hu
      rcases hu with ((hu | hu) | hu) | hu
      · rcases hu with rfl | rfl | rfl | rfl | rfl | rfl | rfl <;> rfl
      · rcases hu with rfl | rfl | rfl | rfl | rfl | rfl | rfl | rfl | rfl | rfl <;> rfl
      · rcases hu with rfl | rfl | rfl | rfl | rfl | rfl | rfl | rfl | rfl | rfl <;> rfl
      · rw [hu]; rfl
    · exact one_rV f rs ns u hu
theorem dV_flen (f : Nat → Int) (ds : List Decl) : (ds.flatMap (dV f)).length = ds.length * 8 := by
  rw [List.flatMap_def]; exact (flat_len _ (dRows_8 f ds)).trans (by simp [dRows])
theorem rV_flen (f : Nat → Int) (rs : List Rule) (ns : List (NV × NV)) (h : ns.length = rs.length) : (rFlat f rs ns).length = rs.length * 28 := by
  rw [rRows_flat, flat_len _ (rRows_28 f rs ns)]; simp [rRows, h]
end Go.Proofs.YtedbpjcglnkjmaaGreatDoor
namespace Go.Proofs.YtedbpjcglnkjmaaGreatDoor
open Go.RowKit Lx Pa

/-- The frame behind the row that is put together, whatever is in the temporaries that are not read any more. -/
inductive IsJ (x5 x10 x11 x12 : Value) : Act → Prop where
  | mk (u0 u1 u2 u3 u4 u6 u7 u8 u9 u13 u14 u15 u16 u17 u18 u19 u20 u21 u22 u23 u24 u25 u26 u27 u28 u29 u30 u31 u32 u33 u34 u35 u36 u37 u38 u39 u40 u41 u42 u43 u44 u45 u46 u47 u48 u49 u50 u51 u52 u53 u54 u55 u56 u57 u58 u59 u60 u61 u62 u63 u64 u65 u66 u67 u68 u69 u70 u71 u72 u73 u74 u75 u76 u77 u78 u79 u80 u81 u82 u83 u84 u85 u86 u87 u88 u89 u90 u91 u92 u93 u94 u95 u96 u97 u98 u99 u100 u101 u102 u103 u104 u105 u106 u107 u108 u109 u110 u111 : Value) : IsJ x5 x10 x11 x12 { tmps := #[u0, u1, u2, u3, u4, x5, u6, u7, u8, u9, x10, x11, x12, u13, u14, u15, u16, u17, u18, u19, u20, u21, u22, u23, u24, u25, u26, u27, u28, u29, u30, u31, u32, u33, u34, u35, u36, u37, u38, u39, u40, u41, u42, u43, u44, u45, u46, u47, u48, u49, u50, u51, u52, u53, u54, u55, u56, u57, u58, u59, u60, u61, u62, u63, u64, u65, u66, u67, u68, u69, u70, u71, u72, u73, u74, u75, u76, u77, u78, u79, u80, u81, u82, u83, u84, u85, u86, u87, u88, u89, u90, u91, u92, u93, u94, u95, u96, u97, u98, u99, u100, u101, u102, u103, u104, u105, u106, u107, u108, u109, u110, u111], defers := [] }
theorem wp_tail {P : Program} {c : Code} {K : Act → World → Prop} {Q : Exit → Act → World → Prop} {a : Act} {w : World} (J : Act → World → Prop) (h1 : ∀ a w, J a w → K a w) (h2 : ∀ K' : Act → World → Prop, (∀ a w, J a w → K' a w) → c.wp P (Exit.then K' Q) a w) : c.wp P (Exit.then K Q) a w := h2 K h1

/-- The by-laws of both, and those that were put together, are equal. -/
theorem join_codex {A B : List UInt8} {c2 c3 c4 : By} {h : Nat → Int} {qd2 qr2 qg2 qd3 qr3 qg3 qd4 qr4 qg4 : Option Addr} {ns2 ns3 ns4 : List (NV × NV)} {d2 r2 d3 r3 d4 r4 cd4 cr4 k b : Nat} {V VV : World} {XA YA XB YB : List Value} {s t : Sl3}
    (hA : byR A = c2) (hB : byR B = c3) (h4 : c4 = ⟨c2.ds.map (Decl.sh k) ++ c3.ds, c2.rs.map (Rule.sh k) ++ c3.rs, []⟩) (e2 : c2.es = []) (e3 : c3.es = []) (P2 : PSt V (ofsR A) c2 qd2 qr2 qg2 ns2) (P3 : PSt V (ofsR B) c3 qd3 qr3 qg3 ns3) (P4 : PSt V h c4 qd4 qr4 qg4 ns4)
    (hXA : c2.ds.flatMap (dV (ofsR A)) = XA) (hYA : c3.ds.flatMap (dV (ofsR B)) = YA) (hXB : rFlat (ofsR A) c2.rs ns2 = XB) (hYB : rFlat (ofsR B) c3.rs ns3 = YB) (y2 : c2.ds.length = d2) (z2 : c2.rs.length = r2) (y3 : c3.ds.length = d3) (z3 : c3.rs.length = r3) (hd4 : d4 = d2 + d3) (hr4 : r4 = r2 + r3)
    (hF : JF V VV b s t) (k1 : s.n = 0 + d2 + d3) (k2 : t.n = 0 + r2 + r3) (k3 : s.xs = [] ++ XA ++ YA) (k4 : t.xs = [] ++ XB ++ YB) :
    Calls Tryz.prog 15 #[.agg #[.slice qd4 d4 cd4, .slice qr4 r4 cr4], .agg #[.slice s.q s.n s.c, .slice t.q t.n t.c], .bool false] VV fun e w' => e = .returned (.bool true) ∧ RowKit.Below VV.heap.size VV w' := by
  subst hXA hYA hXB hYB y2 z2 y3 z3 hd4 hr4
  have l2 := by_len (l := A) (by rw [hA]; exact e2)
  have l3 := by_len (l := B) (by rw [hB]; exact e3)
  have b2 := by_siz A
  have b3 := by_siz B
  rw [hA] at l2 b2
  rw [hB] at l3 b3
  have m2 := P2.nl e2
  have m3 := P3.nl e3
  have e4 : c4.es = [] := by rw [h4]
  have m4 := P4.nl e4
  have P4' := P4.bel hF.bel
  have P2' := P2.bel hF.bel
  have P3' := P3.bel hF.bel
  obtain ⟨q1, n1, p1, x1⟩ := s
  obtain ⟨q2, n2, p2, x2⟩ := t
  simp only at k1 k2 k3 k4
  rw [Nat.zero_add] at k1 k2
  rw [List.nil_append] at k3 k4
  subst k1 k2 k3 k4
  have dl : c4.ds.length = c2.ds.length + c3.ds.length := by rw [h4]; simp
  have rl : c4.rs.length = c2.rs.length + c3.rs.length := by rw [h4]; simp
  refine codexEq (dRows h c4.ds) (dRows (ofsR A) c2.ds ++ dRows (ofsR B) c3.ds) (rRows h c4.rs ns4) (rRows (ofsR A) c2.rs ns2 ++ rRows (ofsR B) c3.rs ns3) _ _ (by simp [dRows, dl]) (by simp [dRows]) (by simp [rRows, m4, rl]) (by simp [rRows, m2, m3]) (dRows_8 _ _) (fun l hl => ?_) (rRows_28 _ _ _) (fun l hl => ?_) _ _ _ _ _ _ _ _ VV ?_ ?_ ?_ ?_ ?_ ?_ (by omega) (by omega)
  · rw [List.mem_append] at hl; rcases hl with hl | hl <;> exact dRows_8 _ _ _ hl
  · rw [List.mem_append] at hl; rcases hl with hl | hl <;> exact rRows_28 _ _ _ _ hl
  · intro h0; obtain ⟨g, e, hg⟩ := P4'.dr e4 (by omega); exact ⟨g, e, by rw [List.flatMap_def] at hg; exact hg⟩
  · intro h0; obtain ⟨g, e, hg⟩ := P4'.rr e4 (by omega); exact ⟨g, e, by rw [rRows_flat] at hg; exact hg⟩
  · intro h0; obtain ⟨g, e, hg⟩ := hF.ra h0
    refine ⟨g, e, ?_⟩
    rw [List.flatten_append]
    rw [List.flatMap_def, List.flatMap_def] at hg
    exact hg
  · intro h0; obtain ⟨g, e, hg⟩ := hF.rb h0
    refine ⟨g, e, ?_⟩
    rw [List.flatten_append]
    rw [rRows_flat, rRows_flat] at hg
    exact hg
  · intro i h h'
    have hi : i < c4.ds.length := by simpa [dRows] using h
    by_cases hlt : i < c2.ds.length
    · rw [List.getElem_append_left (by simpa [dRows] using hlt)]
      simp only [dRows, List.getElem_map]
      refine ⟨_, _, _, _, rfl, rfl, ?_⟩
      have : c4.ds[i] = (c2.ds[i]).sh k := by
        simp only [h4]; rw [List.getElem_append_left (by simpa using hlt), List.getElem_map]
      rw [this]; exact ⟨rfl, rfl, rfl, rfl⟩
    · rw [List.getElem_append_right (by simpa [dRows] using hlt)]
      simp only [dRows, List.getElem_map, List.length_map]
      refine ⟨_, _, _, _, rfl, rfl, ?_⟩
      have : c4.ds[i] = c3.ds[i - c2.ds.length]'(by omega) := by
        simp only [h4]; rw [List.getElem_append_right (by simpa using hlt)]; simp
      rw [this]; exact ⟨rfl, rfl, rfl, rfl⟩
  · intro i h h'
    have hi : i < c4.rs.length := by simp [rRows, m4] at h; omega
    have nd4 := P4'.nd e4 i hi (by omega)
    by_cases hlt : i < c2.rs.length
    · rw [List.getElem_append_left (by simp [rRows, m2]; omega)]
      simp only [rRows, List.getElem_zipWith]
      have e : c4.rs[i] = (c2.rs[i]).sh k := by
        simp only [h4]; rw [List.getElem_append_left (by simpa using hlt), List.getElem_map]
      have z := b2 _ (List.getElem_mem hlt)
      rw [e] at nd4 ⊢
      have nd2 := P2'.nd e2 i hlt (by omega)
      exact ⟨_, _, _, _, _, _, rfl, rfl, sh_eqR _ _ k _, by show ((c2.rs[i]).whn.sh k).siz ≤ _; rw [siz_sh]; omega, by show ((c2.rs[i]).give.sh k).siz ≤ _; rw [siz_sh]; omega, nd4.1, nd4.2, nd2.1, nd2.2⟩
    · rw [List.getElem_append_right (by simp [rRows, m2]; omega)]
      simp only [rRows, List.getElem_zipWith, List.length_zipWith]
      have hmin : min c2.rs.length ns2.length = c2.rs.length := by omega
      simp only [hmin]
      have hi3 : i - c2.rs.length < c3.rs.length := by omega
      have e : c4.rs[i] = c3.rs[i - c2.rs.length] := by
        simp only [h4]; rw [List.getElem_append_right (by simpa using hlt)]; simp
      have z := b3 _ (List.getElem_mem hi3)
      rw [e] at nd4 ⊢
      have nd3 := P3'.nd e3 (i - c2.rs.length) hi3 (by omega)
      exact ⟨_, _, _, _, _, _, rfl, rfl, rfl_eqR _ _ _, by omega, by omega, nd4.1, nd4.2, nd3.1, nd3.2⟩
set_option maxRecDepth 100000 in
set_option maxHeartbeats 20000000 in
theorem joins_main (s0 s1 : ByteArray) (w : World) (h0 : s0.size ≤ 3000) (h1 : s1.size ≤ 3000) : Calls Tryz.prog 5 #[.string s0, .string s1] w fun e w' => e = .returned (.bool true) ∧ RowKit.Below w.heap.size w w' := by
  obtain ⟨A, hA⟩ : ∃ l, s0.data.toList = l := ⟨_, rfl⟩
  obtain ⟨B, hB⟩ : ∃ l, s1.data.toList = l := ⟨_, rfl⟩
  have z0 : s0.size = A.length := by rw [← hA, len_bytes]
  have z1 : s1.size = B.length := by rw [← hB, len_bytes]
  have hF : (s0 ++ ⟨#[10]⟩ ++ s1).data.toList = A ++ 10 :: B := by rw [← hA, ← hB]; simp
  have zF : (s0 ++ ⟨#[10]⟩ ++ s1).size ≤ 281474976710656 := by rw [← len_bytes, hF]; simp; omega
  obtain ⟨c2, hc2⟩ : ∃ c, byR A = c := ⟨_, rfl⟩
  obtain ⟨d2, hd2⟩ : ∃ c, dN c2 = c := ⟨_, rfl⟩
  obtain ⟨r2, hr2⟩ : ∃ c, rN c2 = c := ⟨_, rfl⟩
  obtain ⟨n2, hn2⟩ : ∃ c, c2.es.length = c := ⟨_, rfl⟩
  obtain ⟨c3, hc3⟩ : ∃ c, byR B = c := ⟨_, rfl⟩
  obtain ⟨d3, hd3⟩ : ∃ c, dN c3 = c := ⟨_, rfl⟩
  obtain ⟨r3, hr3⟩ : ∃ c, rN c3 = c := ⟨_, rfl⟩
  obtain ⟨n3, hn3⟩ : ∃ c, c3.es.length = c := ⟨_, rfl⟩
  obtain ⟨c4, hc4⟩ : ∃ c, byR (A ++ 10 :: B) = c := ⟨_, rfl⟩
  obtain ⟨d4, hd4⟩ : ∃ c, dN c4 = c := ⟨_, rfl⟩
  obtain ⟨r4, hr4⟩ : ∃ c, rN c4 = c := ⟨_, rfl⟩
  obtain ⟨n4, hn4⟩ : ∃ c, c4.es.length = c := ⟨_, rfl⟩
  have KA := Lib.hid (fun w => parS (s := s0) w hA hc2 hd2 hr2 hn2 (by omega))
  have KB := Lib.hid (fun w => parS (s := s1) w hB hc3 hd3 hr3 hn3 (by omega))
  have KC := Lib.hid (fun w => parS (s := (s0 ++ ⟨#[10]⟩ ++ s1)) w hF hc4 hd4 hr4 hn4 zF)
  have nil_of : ∀ {l : List (Int × Nat)} {n : Nat}, l.length = n → n = 0 → l = [] := fun h e => List.length_eq_zero_iff.1 (h.trans e)
  have CF : Hid ((n2 = 0 → c2.es = [] ∧ c2.ds.length = d2 ∧ c2.rs.length = r2) ∧ (n3 = 0 → c3.es = [] ∧ c3.ds.length = d3 ∧ c3.rs.length = r3)) := by
    refine ⟨fun h => ?_, fun h => ?_⟩
    · have e := nil_of hn2 h
      exact ⟨e, by rw [← hd2, (dN_ok e).1], by rw [← hr2, (dN_ok e).2]⟩
    · have e := nil_of hn3 h
      exact ⟨e, by rw [← hd3, (dN_ok e).1], by rw [← hr3, (dN_ok e).2]⟩
  have JOI : Hid (n2 = 0 → n3 = 0 → (d2 ≤ 2000 ∧ r2 ≤ 2000) ∧ (d3 ≤ 2000 ∧ r3 ≤ 2000) ∧ ((d2 + d3 ≤ 12 ∧ r2 + r3 ≤ 100 ∧ n4 = 0 ∧ d4 = d2 + d3 ∧ r4 = r2 + r3 ∧ ∃ k, c4 = ⟨c2.ds.map (Decl.sh k) ++ c3.ds, c2.rs.map (Rule.sh k) ++ c3.rs, []⟩) ∨ (True ∧ 0 < n4 ∧ (¬ (d2 + d3 ≤ 12 ∧ r2 + r3 ≤ 100) ∨ (n4 = 1 ∧ c4.es = [(2, 0)]))))) := by
    intro g2 g3
    obtain ⟨x2, x2d, x2r⟩ := CF.out.1 g2
    obtain ⟨x3, x3d, x3r⟩ := CF.out.2 g3
    have l2 := by_len (l := A) (by rw [hc2]; exact x2)
    have l3 := by_len (l := B) (by rw [hc3]; exact x3)
    rw [hc2, x2d, x2r] at l2
    rw [hc3, x3d, x3r] at l3
    refine ⟨l2, l3, ?_⟩
    rcases by_join (a := A) (b := B) (by rw [hc2]; exact x2) (by rw [hc3]; exact x3) (by omega) with ⟨f, k, e⟩ | ⟨f, e⟩ | e
    · left
      rw [hc2, hc3, hc4] at e
      rw [hc2, hc3, x2d, x2r, x3d, x3r] at f
      have e0 : c4.es = [] := by rw [e]
      refine ⟨f.1, f.2, by rw [← hn4, e0]; rfl, ?_, ?_, k, e⟩
      · rw [← hd4, (dN_ok e0).1, e]; simp [x2d, x3d]
      · rw [← hr4, (dN_ok e0).2, e]; simp [x2r, x3r]
    · right
      rw [hc2, hc3, x2d, x2r, x3d, x3r] at f
      rw [hc4] at e
      exact ⟨trivial, by rw [← hn4]; exact List.length_pos_iff.2 e, .inl f⟩
    · right
      rw [hc4] at e
      exact ⟨trivial, by rw [← hn4, e]; decide, .inr ⟨by rw [← hn4, e]; rfl, e⟩⟩
  have hcA := Lib.hid hc2
  have hcB := Lib.hid hc3
  have hn20 : n4 ≤ 20 ∧ n3 ≤ 20 ∧ n2 ≤ 20 := by
    rw [← hn4, ← hn3, ← hn2, ← hc4, ← hc3, ← hc2]
    exact ⟨(by_errs _).1, (by_errs _).1, (by_errs _).1⟩
  have l0 : decide ((3000 : Int) < (s0.size : Int)) = false := decide_eq_false (by omega)
  have l1 : decide ((3000 : Int) < (s1.size : Int)) = false := decide_eq_false (by omega)
  clear hA hB hF zF z0 z1 nil_of hc2 hd2 hr2 hn2 hc3 hd3 hr3 hn3 hc4 hd4 hr4 hn4
  go_enter Tryz.func5, Tryz.ntmps5
  go_wp2_with fail
  refine (head_any _).mono ?_
  rintro _ w1 ⟨rfl, hb⟩
  have B1 := Lib.hid hb
  clear hb
  go_wp2_with fail
  refine (KA.out _).mono ?_
  rintro _ v2 ⟨qd2, cd2, qr2, cr2, qg2, cg2, ns2, rfl, hp, hb⟩
  have bV := (Below.refl _ v2).alloc (Nat.le_refl _) (.cells #[.slice qd2 d2 cd2, .slice qr2 r2 cr2] 26)
  have hbV := hb.trans (bV.mono hb.size)
  have B2 := Lib.hid (B1.out.trans (hbV.mono B1.out.size))
  have P2 := Lib.hid (hp.bel bV)
  have A2 := Lib.hid (At2.new v2 (.slice qd2 d2 cd2) (.slice qr2 r2 cr2) 26)
  clear bV hbV hb hp
  go_wp2_with fail
  generalize v2.alloc (.cells #[.slice qd2 d2 cd2, .slice qr2 r2 cr2] 26) = V2 at *
  refine (KB.out _).mono ?_
  rintro _ v3 ⟨qd3, cd3, qr3, cr3, qg3, cg3, ns3, rfl, hp, hb⟩
  have bV := (Below.refl _ v3).alloc (Nat.le_refl _) (.cells #[.slice qd3 d3 cd3, .slice qr3 r3 cr3] 26)
  have hbV := hb.trans (bV.mono hb.size)
  have B3 := Lib.hid (B2.out.trans (hbV.mono B2.out.size))
  have P3 := Lib.hid (hp.bel bV)
  have A3 := Lib.hid (At2.new v3 (.slice qd3 d3 cd3) (.slice qr3 r3 cr3) 26)
  replace P2 := Lib.hid (P2.out.bel hbV)
  replace A2 := Lib.hid (A2.out.bel hbV)
  clear bV hbV hb hp
  go_wp2_with fail
  generalize v3.alloc (.cells #[.slice qd3 d3 cd3, .slice qr3 r3 cr3] 26) = V3 at *
  refine (KC.out _).mono ?_
  rintro _ v4 ⟨qd4, cd4, qr4, cr4, qg4, cg4, ns4, rfl, hp, hb⟩
  have bV := (Below.refl _ v4).alloc (Nat.le_refl _) (.cells #[.slice qd4 d4 cd4, .slice qr4 r4 cr4] 26)
  have hbV := hb.trans (bV.mono hb.size)
  have B4 := Lib.hid (B3.out.trans (hbV.mono B3.out.size))
  have P4 := Lib.hid (hp.bel bV)
  have A4 := Lib.hid (At2.new v4 (.slice qd4 d4 cd4) (.slice qr4 r4 cr4) 26)
  replace P2 := Lib.hid (P2.out.bel hbV)
  replace P3 := Lib.hid (P3.out.bel hbV)
  replace A2 := Lib.hid (A2.out.bel hbV)
  replace A3 := Lib.hid (A3.out.bel hbV)
  clear bV hbV hb hp
  by_cases h1 : 0 < n2
  · have e1 : decide ((0 : Int) < (n2 : Int)) = true := decide_eq_true (by omega)
    have e1' : decide (0 < n2) = true := decide_eq_true h1
    go_wp2_with fail
    go_ret
    exact ⟨rfl, B4.out⟩
  have e1 : decide ((0 : Int) < (n2 : Int)) = false := decide_eq_false (by omega)
  have e1' : decide (0 < n2) = false := decide_eq_false h1
  by_cases h2 : 0 < n3
  · have e2 : decide ((0 : Int) < (n3 : Int)) = true := decide_eq_true (by omega)
    have e2' : decide (0 < n3) = true := decide_eq_true h2
    go_wp2_with fail
    go_ret
    exact ⟨rfl, B4.out⟩
  have e2 : decide ((0 : Int) < (n3 : Int)) = false := decide_eq_false (by omega)
  have e2' : decide (0 < n3) = false := decide_eq_false h2
  obtain ⟨bd2, bd3, JJ⟩ := JOI.out (by omega) (by omega)
  have x20 := A2.out.c0
  have x21 := A2.out.c1
  have x30 := A3.out.c0
  have x31 := A3.out.c1
  by_cases hfd : 12 < d2 + d3
  · have f1 : decide ((12 : Int) < (d2 : Int) + (d3 : Int)) = true := decide_eq_true (by omega)
    have hn4 : 0 < n4 := by
      rcases JJ with ⟨z, -⟩ | ⟨-, z, -⟩ <;> omega
    have f2 : decide ((0 : Int) < (n4 : Int)) = true := decide_eq_true (by omega)
    have f2' : decide (0 < n4) = true := decide_eq_true hn4
    clear JJ
    go_wp2_with fail
    go_ret
    exact ⟨rfl, B4.out⟩
  have f1 : decide ((12 : Int) < (d2 : Int) + (d3 : Int)) = false := decide_eq_false (by omega)
  by_cases hfr : 100 < r2 + r3
  · have f3 : decide ((100 : Int) < (r2 : Int) + (r3 : Int)) = true := decide_eq_true (by omega)
    have hn4 : 0 < n4 := by
      rcases JJ with ⟨-, z, -⟩ | ⟨-, z, -⟩ <;> omega
    have f2 : decide ((0 : Int) < (n4 : Int)) = true := decide_eq_true (by omega)
    have f2' : decide (0 < n4) = true := decide_eq_true hn4
    clear JJ
    go_wp2_with fail
    go_ret
    exact ⟨rfl, B4.out⟩
  have f3 : decide ((100 : Int) < (r2 : Int) + (r3 : Int)) = false := decide_eq_false (by omega)
  rcases JJ with ⟨-, -, hn4, hd4', hr4', kk, hc4⟩ | ⟨-, hn4, hE⟩
  rotate_left
  · rcases hE with hE | ⟨hE, hes⟩
    · omega
    · subst hE
      obtain ⟨g, rfl, hrow⟩ := P4.out.gr (by rw [hes]; decide)
      rw [hes] at hrow
      have y0 := hrow 0 _ rfl
      have y1 := hrow 1 _ rfl
      simp only at y0 y1
      clear hrow hes
      go_wp2_with fail
      go_ret
      exact ⟨rfl, B4.out⟩
  have HD4 := Lib.hid hd4'
  have HR4 := Lib.hid hr4'
  have HC4 := Lib.hid hc4
  clear hd4' hr4' hc4
  subst hn4
  go_wp2_with fail
  generalize v4.alloc (.cells #[.slice qd4 d4 cd4, .slice qr4 r4 cr4] 26) = V4 at *
  clear x20 x21 x30 x31
  have P2b := P2.out
  have P3b := P3.out
  have z2 := CF.out.1 (by omega)
  have z3 := CF.out.2 (by omega)
  obtain ⟨XA, hXA⟩ : ∃ x, c2.ds.flatMap (dV (ofsR A)) = x := ⟨_, rfl⟩
  obtain ⟨YA, hYA⟩ : ∃ x, c3.ds.flatMap (dV (ofsR B)) = x := ⟨_, rfl⟩
  obtain ⟨XB, hXB⟩ : ∃ x, rFlat (ofsR A) c2.rs ns2 = x := ⟨_, rfl⟩
  obtain ⟨YB, hYB⟩ : ∃ x, rFlat (ofsR B) c3.rs ns3 = x := ⟨_, rfl⟩
  have XP : Hid ((0 < d2 → ∃ g, qd2 = some ⟨g, 0, none⟩ ∧ RowAt V4 g XA) ∧ XA.length = d2 * 8 ∧ ∀ u ∈ XA, u.oneCell' = true) := ⟨fun h => by rw [← hXA]; exact P2b.dr z2.1 (by rw [z2.2.1]; exact h), by rw [← hXA, dV_flen, z2.2.1], by rw [← hXA]; exact one_dV _ _⟩
  have YP : Hid ((0 < d3 → ∃ g, qd3 = some ⟨g, 0, none⟩ ∧ RowAt V4 g YA) ∧ YA.length = d3 * 8 ∧ ∀ u ∈ YA, u.oneCell' = true) := ⟨fun h => by rw [← hYA]; exact P3b.dr z3.1 (by rw [z3.2.1]; exact h), by rw [← hYA, dV_flen, z3.2.1], by rw [← hYA]; exact one_dV _ _⟩
  have XQ : Hid ((0 < r2 → ∃ g, qr2 = some ⟨g, 0, none⟩ ∧ RowAt V4 g XB) ∧ XB.length = r2 * 28 ∧ ∀ u ∈ XB, u.oneCell' = true) := ⟨fun h => by rw [← hXB]; exact P2b.rr z2.1 (by rw [z2.2.2]; exact h), by rw [← hXB, rV_flen _ _ _ (P2b.nl z2.1), z2.2.2], by rw [← hXB]; exact one_rV _ _ _⟩
  have YQ : Hid ((0 < r3 → ∃ g, qr3 = some ⟨g, 0, none⟩ ∧ RowAt V4 g YB) ∧ YB.length = r3 * 28 ∧ ∀ u ∈ YB, u.oneCell' = true) := ⟨fun h => by rw [← hYB]; exact P3b.rr z3.1 (by rw [z3.2.2]; exact h), by rw [← hYB, rV_flen _ _ _ (P3b.nl z3.1), z3.2.2], by rw [← hYB]; exact one_rV _ _ _⟩
  have KSC : Hid (∀ (VV : World) (b : Nat) (s t : Sl3), JF V4 VV b s t → s.n = 0 + d2 + d3 → t.n = 0 + r2 + r3 → s.xs = [] ++ XA ++ YA → t.xs = [] ++ XB ++ YB → Calls Tryz.prog 15 #[.agg #[.slice qd4 d4 cd4, .slice qr4 r4 cr4], .agg #[.slice s.q s.n s.c, .slice t.q t.n t.c], .bool false] VV fun e w' => e = .returned (.bool true) ∧ RowKit.Below VV.heap.size VV w') := by
    intro VV b s t hF k1 k2 k3 k4
    exact join_codex hcA.out hcB.out HC4.out z2.1 z3.1 P2.out P3.out P4.out hXA hYA hXB hYB z2.2.1 z2.2.2 z3.2.1 z3.2.2 HD4.out HR4.out hF k1 k2 k3 k4
  clear P2b P3b z2 z3 hXA hYA hXB hYB
  have A4b := Lib.hid A4.out
  obtain ⟨J0, hJ0⟩ : ∃ J : Act → World → Prop, J = (fun a w' => ∃ (b : Nat) (s t : Sl3), IsJ (.bool true) (.pointer (some ⟨v4.heap.size, 0, none⟩)) (.slice qg4 0 cg4) (.pointer (some ⟨b, 0, none⟩)) a ∧ JF V4 w' b s t ∧ s.n = 0 + d2 + d3 ∧ t.n = 0 + r2 + r3 ∧ s.xs = [] ++ XA ++ YA ∧ t.xs = [] ++ XB ++ YB) := ⟨_, rfl⟩
  refine wp_tail J0 ?_ ?_
  · subst hJ0
    rintro a' w' ⟨b, s, t, hA, hF, k1, k2, k3, k4⟩
    obtain ⟨xa0, xa1, -, -⟩ := A4.out.bel hF.bel
    obtain ⟨xb0, xb1, -, -⟩ := hF.at2
    have KQ := Lib.hid (KSC.out w' b s t hF k1 k2 k3 k4)
    have BF := Lib.hid (B4.out.trans (hF.bel.mono B4.out.size))
    clear hF k1 k2 k3 k4
    cases hA
    go_wp2_with fail
    refine KQ.out.mono ?_
    rintro _ v9 ⟨rfl, hb⟩
    have B9 := Lib.hid (BF.out.trans (hb.mono BF.out.size))
    clear hb
    go_wp2_with fail
    go_ret
    exact ⟨rfl, B9.out⟩
  · intro KT hKT
    have TAIL : ∀ a w', (∃ (b : Nat) (s t : Sl3), IsJ (.bool true) (.pointer (some ⟨v4.heap.size, 0, none⟩)) (.slice qg4 0 cg4) (.pointer (some ⟨b, 0, none⟩)) a ∧ JF V4 w' b s t ∧ s.n = 0 + d2 + d3 ∧ t.n = 0 + r2 + r3 ∧ s.xs = [] ++ XA ++ YA ∧ t.xs = [] ++ XB ++ YB) → KT a w' := fun a w' h => hKT a w' (by rw [hJ0]; exact h)
    clear hKT hJ0 KSC
    have hS := Lib.hid (JS.start V4).bel
    have HJ := Lib.hid (JS.start V4)
    refine wp_region_held (S := fun w' : World => Hid (RowKit.Below V4.heap.size V4 w')) mixed ?_
    change wpAnyH _ _ _ _ _ _ _ _ V4.drew
    refine tk1 (v := .pointer (some ⟨v2.heap.size, 0, none⟩)) (by kernel_rfl) (by kernel_rfl) (by kernel_rfl) (fun _ _ _ h => h) (Or.inl ⟨by kernel_rfl, ?_⟩) hS ?_
    · intro w' hSw
      go_simp; try with_reducible rfl
    simp only [Act.put, List.setIfInBounds_toArray, List.set_cons_zero, List.set_cons_succ]
    refine tk2 (v := .slice qd2 d2 cd2) (by kernel_rfl) (by kernel_rfl) (by kernel_rfl) (fun _ _ _ h => h) (Or.inl ⟨by kernel_rfl, ?_⟩) hS ?_
    · intro w' hSw
      have hc := (A2.out.bel hSw.out).c0
      go_simp; try with_reducible rfl
    simp only [Act.put, List.setIfInBounds_toArray, List.set_cons_zero, List.set_cons_succ]
    refine tk4 (v := .pointer (some ⟨v3.heap.size, 0, none⟩)) (by kernel_rfl) (by kernel_rfl) (by kernel_rfl) (fun _ _ _ h => h) (Or.inl ⟨by kernel_rfl, ?_⟩) hS ?_
    · intro w' hSw
      go_simp; try with_reducible rfl
    simp only [Act.put, List.setIfInBounds_toArray, List.set_cons_zero, List.set_cons_succ]
    refine tk5 (v := .slice qd3 d3 cd3) (by kernel_rfl) (by kernel_rfl) (by kernel_rfl) (fun _ _ _ h => h) (Or.inl ⟨by kernel_rfl, ?_⟩) hS ?_
    · intro w' hSw
      have hc := (A3.out.bel hSw.out).c0
      go_simp; try with_reducible rfl
    simp only [Act.put, List.setIfInBounds_toArray, List.set_cons_zero, List.set_cons_succ]
    refine tk8 (v := .pointer (some ⟨v2.heap.size, 1, none⟩)) (by kernel_rfl) (by kernel_rfl) (by kernel_rfl) (fun _ _ _ h => h) (Or.inl ⟨by kernel_rfl, ?_⟩) hS ?_
    · intro w' hSw
      go_simp; try with_reducible rfl
    simp only [Act.put, List.setIfInBounds_toArray, List.set_cons_zero, List.set_cons_succ]
    refine tk9 (v := .slice qr2 r2 cr2) (by kernel_rfl) (by kernel_rfl) (by kernel_rfl) (fun _ _ _ h => h) (Or.inl ⟨by kernel_rfl, ?_⟩) hS ?_
    · intro w' hSw
      have hc := (A2.out.bel hSw.out).c1
      go_simp; try with_reducible rfl
    simp only [Act.put, List.setIfInBounds_toArray, List.set_cons_zero, List.set_cons_succ]
    refine tk11 (v := .pointer (some ⟨v3.heap.size, 1, none⟩)) (by kernel_rfl) (by kernel_rfl) (by kernel_rfl) (fun _ _ _ h => h) (Or.inl ⟨by kernel_rfl, ?_⟩) hS ?_
    · intro w' hSw
      go_simp; try with_reducible rfl
    simp only [Act.put, List.setIfInBounds_toArray, List.set_cons_zero, List.set_cons_succ]
    refine tk12 (v := .slice qr3 r3 cr3) (by kernel_rfl) (by kernel_rfl) (by kernel_rfl) (fun _ _ _ h => h) (Or.inl ⟨by kernel_rfl, ?_⟩) hS ?_
    · intro w' hSw
      have hc := (A3.out.bel hSw.out).c1
      go_simp; try with_reducible rfl
    simp only [Act.put, List.setIfInBounds_toArray, List.set_cons_zero, List.set_cons_succ]
    refine wpAnyH_ready (rs := [0, 7, 15]) (by kernel_rfl) (by simp) (st0 (fun K hK => ?_) (st7 (fun K hK => ?_) (st15 (fun K hK => ?_) AllReadyH.nil)))
    · refine (if_pos (by kernel_rfl)).mpr ?_
      obtain ⟨q1, c1, w1, hr, hj⟩ := HJ.out.mkA
      refine wp_slice0 rfl hr ?_
      have hS := Lib.hid hj.bel
      have HJ := Lib.hid hj
      clear hr hj
      refine hK.out _ _ ?_ (fun hHeld => ?_)
      · exact hS
      clear hK K
      try simp only [Act.put, List.setIfInBounds_toArray, List.set_cons_zero, List.set_cons_succ]
      refine wpAnyH_ready (rs := [3, 7, 15]) (by kernel_rfl) (by simp) (st3 (fun K hK => ?_) (st7 (fun K hK => ?_) (st15 (fun K hK => ?_) AllReadyH.nil)))
      · refine (if_pos (by kernel_rfl)).mpr ?_
        obtain ⟨q2, c2, w2, hr, hj⟩ := HJ.out.apA qd2 d2 cd2 XA XP.out.1 XP.out.2.1 XP.out.2.2 (by show 0 + d2 ≤ 1000000; omega)
        refine wp_app (.tmp 86) (.tmp 88) rfl rfl rfl hr ?_
        have hS := Lib.hid hj.bel
        have HJ := Lib.hid hj
        clear hr hj
        refine hK.out _ _ ?_ (fun hHeld => ?_)
        · exact hS
        clear hK K
        try simp only [Act.put, List.setIfInBounds_toArray, List.set_cons_zero, List.set_cons_succ]
        refine wpAnyH_ready (rs := [6, 7, 15]) (by kernel_rfl) (by simp) (st6 (fun K hK => ?_) (st7 (fun K hK => ?_) (st15 (fun K hK => ?_) AllReadyH.nil)))
        · refine (if_pos (by kernel_rfl)).mpr ?_
          obtain ⟨q3, c3, w3, hr, hj⟩ := HJ.out.apA qd3 d3 cd3 YA YP.out.1 YP.out.2.1 YP.out.2.2 (by show 0 + d2 + d3 ≤ 1000000; omega)
          refine wp_app (.tmp 89) (.tmp 91) rfl rfl rfl hr ?_
          have hS := Lib.hid hj.bel
          have HJ := Lib.hid hj
          clear hr hj
          refine hK.out _ _ ?_ (fun hHeld => ?_)
          · exact hS
          clear hK K
          try simp only [Act.put, List.setIfInBounds_toArray, List.set_cons_zero, List.set_cons_succ]
          refine wpAnyH_ready (rs := [7, 15]) (by kernel_rfl) (by simp) (st7 (fun K hK => ?_) (st15 (fun K hK => ?_) AllReadyH.nil))
          · refine (if_pos (by kernel_rfl)).mpr ?_
            obtain ⟨q4, c4, w4, hr, hj⟩ := HJ.out.mkB
            refine wp_slice0 rfl hr ?_
            have hS := Lib.hid hj.bel
            have HJ := Lib.hid hj
            clear hr hj
            refine hK.out _ _ ?_ (fun hHeld => ?_)
            · exact hS
            clear hK K
            try simp only [Act.put, List.setIfInBounds_toArray, List.set_cons_zero, List.set_cons_succ]
            refine wpAnyH_ready (rs := [10, 15]) (by kernel_rfl) (by simp) (st10 (fun K hK => ?_) (st15 (fun K hK => ?_) AllReadyH.nil))
            · refine (if_pos (by kernel_rfl)).mpr ?_
              obtain ⟨q5, c5, w5, hr, hj⟩ := HJ.out.apB qr2 r2 cr2 XB XQ.out.1 XQ.out.2.1 XQ.out.2.2 (by show 0 + r2 ≤ 1000000; omega)
              refine wp_app (.tmp 93) (.tmp 95) rfl rfl rfl hr ?_
              have hS := Lib.hid hj.bel
              have HJ := Lib.hid hj
              clear hr hj
              refine hK.out _ _ ?_ (fun hHeld => ?_)
              · exact hS
              clear hK K
              try simp only [Act.put, List.setIfInBounds_toArray, List.set_cons_zero, List.set_cons_succ]
              refine wpAnyH_ready (rs := [13, 15]) (by kernel_rfl) (by simp) (st13 (fun K hK => ?_) (st15 (fun K hK => ?_) AllReadyH.nil))
              · refine (if_pos (by kernel_rfl)).mpr ?_
                obtain ⟨q6, c6, w6, hr, hj⟩ := HJ.out.apB qr3 r3 cr3 YB YQ.out.1 YQ.out.2.1 YQ.out.2.2 (by show 0 + r2 + r3 ≤ 1000000; omega)
                refine wp_app (.tmp 96) (.tmp 98) rfl rfl rfl hr ?_
                have hS := Lib.hid hj.bel
                have HJ := Lib.hid hj
                clear hr hj
                refine hK.out _ _ ?_ (fun hHeld => ?_)
                · exact hS
                clear hK K
                try simp only [Act.put, List.setIfInBounds_toArray, List.set_cons_zero, List.set_cons_succ]
                refine tk14 (v := .agg #[.slice q3 (0 + d2 + d3) c3, .slice q6 (0 + r2 + r3) c6]) (by kernel_rfl) (by kernel_rfl) (by kernel_rfl) (fun _ _ _ h => h) (Or.inl ⟨by kernel_rfl, ?_⟩) hS ?_
                · intro w' hSw
                  go_simp; try with_reducible rfl
                simp only [Act.put, List.setIfInBounds_toArray, List.set_cons_zero, List.set_cons_succ]
                refine wpAnyH_ready (rs := [15]) (by kernel_rfl) (by simp) (st15 (fun K hK => ?_) AllReadyH.nil)
                refine (if_pos (by kernel_rfl)).mpr ?_
                obtain ⟨q7, w7, hr, hj⟩ := HJ.out.mkX
                refine wp_alloc rfl hr ?_
                have hS := Lib.hid hj.bel
                have HJ := Lib.hid hj
                clear hr hj
                refine hK.out _ _ ?_ (fun hHeld => ?_)
                · exact hS
                clear hK K
                try simp only [Act.put, List.setIfInBounds_toArray, List.set_cons_zero, List.set_cons_succ]
                refine wpAnyH_ready (rs := [16]) (by kernel_rfl) (by simp) (st16 (fun K hK => ?_) AllReadyH.nil)
                obtain ⟨⟨c0, c1, f0, f1⟩, -⟩ := HJ.out.ox _ rfl
                go_simp
                have hj := HJ.out.fin
                simp only [Nat.zero_add, List.nil_append] at hj
                have hS := Lib.hid hj.bel
                clear c0 c1 f0 f1
                refine hK.out _ _ ?_ (fun hHeld => ?_)
                · exact hS
                clear hK K
                try simp only [Act.put, List.setIfInBounds_toArray, List.set_cons_zero, List.set_cons_succ]
                refine wpAnyH_done (by kernel_rfl) ?_ _
                exact TAIL _ _ ⟨_, _, _, by constructor, hj, (by simp only [Nat.zero_add]), (by simp only [Nat.zero_add]), (by simp only [List.nil_append]), (by simp only [List.nil_append])⟩
              · refine (if_pos (by kernel_rfl)).mpr ?_
                obtain ⟨q6, w6, hr, hj⟩ := HJ.out.mkX
                refine wp_alloc rfl hr ?_
                have hS := Lib.hid hj.bel
                have HJ := Lib.hid hj
                clear hr hj
                refine hK.out _ _ ?_ (fun hHeld => ?_)
                · exact hS
                clear hK K
                try simp only [Act.put, List.setIfInBounds_toArray, List.set_cons_zero, List.set_cons_succ]
                refine wpAnyH_ready (rs := [13]) (by kernel_rfl) (by simp) (st13 (fun K hK => ?_) AllReadyH.nil)
                refine (if_pos (by kernel_rfl)).mpr ?_
                obtain ⟨q7, c7, w7, hr, hj⟩ := HJ.out.apB qr3 r3 cr3 YB YQ.out.1 YQ.out.2.1 YQ.out.2.2 (by show 0 + r2 + r3 ≤ 1000000; omega)
                refine wp_app (.tmp 96) (.tmp 98) rfl rfl rfl hr ?_
                have hS := Lib.hid hj.bel
                have HJ := Lib.hid hj
                clear hr hj
                refine hK.out _ _ ?_ (fun hHeld => ?_)
                · exact hS
                clear hK K
                try simp only [Act.put, List.setIfInBounds_toArray, List.set_cons_zero, List.set_cons_succ]
                refine tk14 (v := .agg #[.slice q3 (0 + d2 + d3) c3, .slice q7 (0 + r2 + r3) c7]) (by kernel_rfl) (by kernel_rfl) (by kernel_rfl) (fun _ _ _ h => h) (Or.inl ⟨by kernel_rfl, ?_⟩) hS ?_
                · intro w' hSw
                  go_simp; try with_reducible rfl
                simp only [Act.put, List.setIfInBounds_toArray, List.set_cons_zero, List.set_cons_succ]
                refine wpAnyH_ready (rs := [16]) (by kernel_rfl) (by simp) (st16 (fun K hK => ?_) AllReadyH.nil)
                obtain ⟨⟨c0, c1, f0, f1⟩, -⟩ := HJ.out.ox _ rfl
                go_simp
                have hj := HJ.out.fin
                simp only [Nat.zero_add, List.nil_append] at hj
                have hS := Lib.hid hj.bel
                clear c0 c1 f0 f1
                refine hK.out _ _ ?_ (fun hHeld => ?_)
                · exact hS
                clear hK K
                try simp only [Act.put, List.setIfInBounds_toArray, List.set_cons_zero, List.set_cons_succ]
                refine wpAnyH_done (by kernel_rfl) ?_ _
                exact TAIL _ _ ⟨_, _, _, by constructor, hj, (by simp only [Nat.zero_add]), (by simp only [Nat.zero_add]), (by simp only [List.nil_append]), (by simp only [List.nil_append])⟩
            · refine (if_pos (by kernel_rfl)).mpr ?_
              obtain ⟨q5, w5, hr, hj⟩ := HJ.out.mkX
              refine wp_alloc rfl hr ?_
              have hS := Lib.hid hj.bel
              have HJ := Lib.hid hj
              clear hr hj
              refine hK.out _ _ ?_ (fun hHeld => ?_)
              · exact hS
              clear hK K
              try simp only [Act.put, List.setIfInBounds_toArray, List.set_cons_zero, List.set_cons_succ]
              refine wpAnyH_ready (rs := [10]) (by kernel_rfl) (by simp) (st10 (fun K hK => ?_) AllReadyH.nil)
              refine (if_pos (by kernel_rfl)).mpr ?_
              obtain ⟨q6, c6, w6, hr, hj⟩ := HJ.out.apB qr2 r2 cr2 XB XQ.out.1 XQ.out.2.1 XQ.out.2.2 (by show 0 + r2 ≤ 1000000; omega)
              refine wp_app (.tmp 93) (.tmp 95) rfl rfl rfl hr ?_
              have hS := Lib.hid hj.bel
              have HJ := Lib.hid hj
              clear hr hj
              refine hK.out _ _ ?_ (fun hHeld => ?_)
              · exact hS
              clear hK K
              try simp only [Act.put, List.setIfInBounds_toArray, List.set_cons_zero, List.set_cons_succ]
              refine wpAnyH_ready (rs := [13]) (by kernel_rfl) (by simp) (st13 (fun K hK => ?_) AllReadyH.nil)
              refine (if_pos (by kernel_rfl)).mpr ?_
              obtain ⟨q7, c7, w7, hr, hj⟩ := HJ.out.apB qr3 r3 cr3 YB YQ.out.1 YQ.out.2.1 YQ.out.2.2 (by show 0 + r2 + r3 ≤ 1000000; omega)
              refine wp_app (.tmp 96) (.tmp 98) rfl rfl rfl hr ?_
              have hS := Lib.hid hj.bel
              have HJ := Lib.hid hj
              clear hr hj
              refine hK.out _ _ ?_ (fun hHeld => ?_)
              · exact hS
              clear hK K
              try simp only [Act.put, List.setIfInBounds_toArray, List.set_cons_zero, List.set_cons_succ]
              refine tk14 (v := .agg #[.slice q3 (0 + d2 + d3) c3, .slice q7 (0 + r2 + r3) c7]) (by kernel_rfl) (by kernel_rfl) (by kernel_rfl) (fun _ _ _ h => h) (Or.inl ⟨by kernel_rfl, ?_⟩) hS ?_
              · intro w' hSw
                go_simp; try with_reducible rfl
              simp only [Act.put, List.setIfInBounds_toArray, List.set_cons_zero, List.set_cons_succ]
              refine wpAnyH_ready (rs := [16]) (by kernel_rfl) (by simp) (st16 (fun K hK => ?_) AllReadyH.nil)
              obtain ⟨⟨c0, c1, f0, f1⟩, -⟩ := HJ.out.ox _ rfl
              go_simp
              have hj := HJ.out.fin
              simp only [Nat.zero_add, List.nil_append] at hj
              have hS := Lib.hid hj.bel
              clear c0 c1 f0 f1
              refine hK.out _ _ ?_ (fun hHeld => ?_)
              · exact hS
              clear hK K
              try simp only [Act.put, List.setIfInBounds_toArray, List.set_cons_zero, List.set_cons_succ]
              refine wpAnyH_done (by kernel_rfl) ?_ _
              exact TAIL _ _ ⟨_, _, _, by constructor, hj, (by simp only [Nat.zero_add]), (by simp only [Nat.zero_add]), (by simp only [List.nil_append]), (by simp only [List.nil_append])⟩
          · refine (if_pos (by kernel_rfl)).mpr ?_
            obtain ⟨q4, w4, hr, hj⟩ := HJ.out.mkX
            refine wp_alloc rfl hr ?_
            have hS := Lib.hid hj.bel
            have HJ := Lib.hid hj
            clear hr hj
            refine hK.out _ _ ?_ (fun hHeld => ?_)
            · exact hS
            clear hK K
            try simp only [Act.put, List.setIfInBounds_toArray, List.set_cons_zero, List.set_cons_succ]
            refine wpAnyH_ready (rs := [7]) (by kernel_rfl) (by simp) (st7 (fun K hK => ?_) AllReadyH.nil)
            refine (if_pos (by kernel_rfl)).mpr ?_
            obtain ⟨q5, c5, w5, hr, hj⟩ := HJ.out.mkB
            refine wp_slice0 rfl hr ?_
            have hS := Lib.hid hj.bel
            have HJ := Lib.hid hj
            clear hr hj
            refine hK.out _ _ ?_ (fun hHeld => ?_)
            · exact hS
            clear hK K
            try simp only [Act.put, List.setIfInBounds_toArray, List.set_cons_zero, List.set_cons_succ]
            refine wpAnyH_ready (rs := [10]) (by kernel_rfl) (by simp) (st10 (fun K hK => ?_) AllReadyH.nil)
            refine (if_pos (by kernel_rfl)).mpr ?_
            obtain ⟨q6, c6, w6, hr, hj⟩ := HJ.out.apB qr2 r2 cr2 XB XQ.out.1 XQ.out.2.1 XQ.out.2.2 (by show 0 + r2 ≤ 1000000; omega)
            refine wp_app (.tmp 93) (.tmp 95) rfl rfl rfl hr ?_
            have hS := Lib.hid hj.bel
            have HJ := Lib.hid hj
            clear hr hj
            refine hK.out _ _ ?_ (fun hHeld => ?_)
            · exact hS
            clear hK K
            try simp only [Act.put, List.setIfInBounds_toArray, List.set_cons_zero, List.set_cons_succ]
            refine wpAnyH_ready (rs := [13]) (by kernel_rfl) (by simp) (st13 (fun K hK => ?_) AllReadyH.nil)
            refine (if_pos (by kernel_rfl)).mpr ?_
            obtain ⟨q7, c7, w7, hr, hj⟩ := HJ.out.apB qr3 r3 cr3 YB YQ.out.1 YQ.out.2.1 YQ.out.2.2 (by show 0 + r2 + r3 ≤ 1000000; omega)
            refine wp_app (.tmp 96) (.tmp 98) rfl rfl rfl hr ?_
            have hS := Lib.hid hj.bel
            have HJ := Lib.hid hj
            clear hr hj
            refine hK.out _ _ ?_ (fun hHeld => ?_)
            · exact hS
            clear hK K
            try simp only [Act.put, List.setIfInBounds_toArray, List.set_cons_zero, List.set_cons_succ]
            refine tk14 (v := .agg #[.slice q3 (0 + d2 + d3) c3, .slice q7 (0 + r2 + r3) c7]) (by kernel_rfl) (by kernel_rfl) (by kernel_rfl) (fun _ _ _ h => h) (Or.inl ⟨by kernel_rfl, ?_⟩) hS ?_
            · intro w' hSw
              go_simp; try with_reducible rfl
            simp only [Act.put, List.setIfInBounds_toArray, List.set_cons_zero, List.set_cons_succ]
            refine wpAnyH_ready (rs := [16]) (by kernel_rfl) (by simp) (st16 (fun K hK => ?_) AllReadyH.nil)
            obtain ⟨⟨c0, c1, f0, f1⟩, -⟩ := HJ.out.ox _ rfl
            go_simp
            have hj := HJ.out.fin
            simp only [Nat.zero_add, List.nil_append] at hj
            have hS := Lib.hid hj.bel
            clear c0 c1 f0 f1
            refine hK.out _ _ ?_ (fun hHeld => ?_)
            · exact hS
            clear hK K
            try simp only [Act.put, List.setIfInBounds_toArray, List.set_cons_zero, List.set_cons_succ]
            refine wpAnyH_done (by kernel_rfl) ?_ _
            exact TAIL _ _ ⟨_, _, _, by constructor, hj, (by simp only [Nat.zero_add]), (by simp only [Nat.zero_add]), (by simp only [List.nil_append]), (by simp only [List.nil_append])⟩
        · refine (if_pos (by kernel_rfl)).mpr ?_
          obtain ⟨q3, c3, w3, hr, hj⟩ := HJ.out.mkB
          refine wp_slice0 rfl hr ?_
          have hS := Lib.hid hj.bel
          have HJ := Lib.hid hj
          clear hr hj
          refine hK.out _ _ ?_ (fun hHeld => ?_)
          · exact hS
          clear hK K
          try simp only [Act.put, List.setIfInBounds_toArray, List.set_cons_zero, List.set_cons_succ]
          refine wpAnyH_ready (rs := [6, 15]) (by kernel_rfl) (by simp) (st6 (fun K hK => ?_) (st15 (fun K hK => ?_) AllReadyH.nil))
          · refine (if_pos (by kernel_rfl)).mpr ?_
            obtain ⟨q4, c4, w4, hr, hj⟩ := HJ.out.apA qd3 d3 cd3 YA YP.out.1 YP.out.2.1 YP.out.2.2 (by show 0 + d2 + d3 ≤ 1000000; omega)
            refine wp_app (.tmp 89) (.tmp 91) rfl rfl rfl hr ?_
            have hS := Lib.hid hj.bel
            have HJ := Lib.hid hj
            clear hr hj
            refine hK.out _ _ ?_ (fun hHeld => ?_)
            · exact hS
            clear hK K
            try simp only [Act.put, List.setIfInBounds_toArray, List.set_cons_zero, List.set_cons_succ]
            refine wpAnyH_ready (rs := [10, 15]) (by kernel_rfl) (by simp) (st10 (fun K hK => ?_) (st15 (fun K hK => ?_) AllReadyH.nil))
            · refine (if_pos (by kernel_rfl)).mpr ?_
              obtain ⟨q5, c5, w5, hr, hj⟩ := HJ.out.apB qr2 r2 cr2 XB XQ.out.1 XQ.out.2.1 XQ.out.2.2 (by show 0 + r2 ≤ 1000000; omega)
              refine wp_app (.tmp 93) (.tmp 95) rfl rfl rfl hr ?_
              have hS := Lib.hid hj.bel
              have HJ := Lib.hid hj
              clear hr hj
              refine hK.out _ _ ?_ (fun hHeld => ?_)
              · exact hS
              clear hK K
              try simp only [Act.put, List.setIfInBounds_toArray, List.set_cons_zero, List.set_cons_succ]
              refine wpAnyH_ready (rs := [13, 15]) (by kernel_rfl) (by simp) (st13 (fun K hK => ?_) (st15 (fun K hK => ?_) AllReadyH.nil))
              · refine (if_pos (by kernel_rfl)).mpr ?_
                obtain ⟨q6, c6, w6, hr, hj⟩ := HJ.out.apB qr3 r3 cr3 YB YQ.out.1 YQ.out.2.1 YQ.out.2.2 (by show 0 + r2 + r3 ≤ 1000000; omega)
                refine wp_app (.tmp 96) (.tmp 98) rfl rfl rfl hr ?_
                have hS := Lib.hid hj.bel
                have HJ := Lib.hid hj
                clear hr hj
                refine hK.out _ _ ?_ (fun hHeld => ?_)
                · exact hS
                clear hK K
                try simp only [Act.put, List.setIfInBounds_toArray, List.set_cons_zero, List.set_cons_succ]
                refine tk14 (v := .agg #[.slice q4 (0 + d2 + d3) c4, .slice q6 (0 + r2 + r3) c6]) (by kernel_rfl) (by kernel_rfl) (by kernel_rfl) (fun _ _ _ h => h) (Or.inl ⟨by kernel_rfl, ?_⟩) hS ?_
                · intro w' hSw
                  go_simp; try with_reducible rfl
                simp only [Act.put, List.setIfInBounds_toArray, List.set_cons_zero, List.set_cons_succ]
                refine wpAnyH_ready (rs := [15]) (by kernel_rfl) (by simp) (st15 (fun K hK => ?_) AllReadyH.nil)
                refine (if_pos (by kernel_rfl)).mpr ?_
                obtain ⟨q7, w7, hr, hj⟩ := HJ.out.mkX
                refine wp_alloc rfl hr ?_
                have hS := Lib.hid hj.bel
                have HJ := Lib.hid hj
                clear hr hj
                refine hK.out _ _ ?_ (fun hHeld => ?_)
                · exact hS
                clear hK K
                try simp only [Act.put, List.setIfInBounds_toArray, List.set_cons_zero, List.set_cons_succ]
                refine wpAnyH_ready (rs := [16]) (by kernel_rfl) (by simp) (st16 (fun K hK => ?_) AllReadyH.nil)
                obtain ⟨⟨c0, c1, f0, f1⟩, -⟩ := HJ.out.ox _ rfl
                go_simp
                have hj := HJ.out.fin
                simp only [Nat.zero_add, List.nil_append] at hj
                have hS := Lib.hid hj.bel
                clear c0 c1 f0 f1
                refine hK.out _ _ ?_ (fun hHeld => ?_)
                · exact hS
                clear hK K
                try simp only [Act.put, List.setIfInBounds_toArray, List.set_cons_zero, List.set_cons_succ]
                refine wpAnyH_done (by kernel_rfl) ?_ _
                exact TAIL _ _ ⟨_, _, _, by constructor, hj, (by simp only [Nat.zero_add]), (by simp only [Nat.zero_add]), (by simp only [List.nil_append]), (by simp only [List.nil_append])⟩
              · refine (if_pos (by kernel_rfl)).mpr ?_
                obtain ⟨q6, w6, hr, hj⟩ := HJ.out.mkX
                refine wp_alloc rfl hr ?_
                have hS := Lib.hid hj.bel
                have HJ := Lib.hid hj
                clear hr hj
                refine hK.out _ _ ?_ (fun hHeld => ?_)
                · exact hS
                clear hK K
                try simp only [Act.put, List.setIfInBounds_toArray, List.set_cons_zero, List.set_cons_succ]
                refine wpAnyH_ready (rs := [13]) (by kernel_rfl) (by simp) (st13 (fun K hK => ?_) AllReadyH.nil)
                refine (if_pos (by kernel_rfl)).mpr ?_
                obtain ⟨q7, c7, w7, hr, hj⟩ := HJ.out.apB qr3 r3 cr3 YB YQ.out.1 YQ.out.2.1 YQ.out.2.2 (by show 0 + r2 + r3 ≤ 1000000; omega)
                refine wp_app (.tmp 96) (.tmp 98) rfl rfl rfl hr ?_
                have hS := Lib.hid hj.bel
                have HJ := Lib.hid hj
                clear hr hj
                refine hK.out _ _ ?_ (fun hHeld => ?_)
                · exact hS
                clear hK K
                try simp only [Act.put, List.setIfInBounds_toArray, List.set_cons_zero, List.set_cons_succ]
                refine tk14 (v := .agg #[.slice q4 (0 + d2 + d3) c4, .slice q7 (0 + r2 + r3) c7]) (by kernel_rfl) (by kernel_rfl) (by kernel_rfl) (fun _ _ _ h => h) (Or.inl ⟨by kernel_rfl, ?_⟩) hS ?_
                · intro w' hSw
                  go_simp; try with_reducible rfl
                simp only [Act.put, List.setIfInBounds_toArray, List.set_cons_zero, List.set_cons_succ]
                refine wpAnyH_ready (rs := [16]) (by kernel_rfl) (by simp) (st16 (fun K hK => ?_) AllReadyH.nil)
                obtain ⟨⟨c0, c1, f0, f1⟩, -⟩ := HJ.out.ox _ rfl
                go_simp
                have hj := HJ.out.fin
                simp only [Nat.zero_add, List.nil_append] at hj
                have hS := Lib.hid hj.bel
                clear c0 c1 f0 f1
                refine hK.out _ _ ?_ (fun hHeld => ?_)
                · exact hS
                clear hK K
                try simp only [Act.put, List.setIfInBounds_toArray, List.set_cons_zero, List.set_cons_succ]
                refine wpAnyH_done (by kernel_rfl) ?_ _
                exact TAIL _ _ ⟨_, _, _, by constructor, hj, (by simp only [Nat.zero_add]), (by simp only [Nat.zero_add]), (by simp only [List.nil_append]), (by simp only [List.nil_append])⟩
            · refine (if_pos (by kernel_rfl)).mpr ?_
              obtain ⟨q5, w5, hr, hj⟩ := HJ.out.mkX
              refine wp_alloc rfl hr ?_
              have hS := Lib.hid hj.bel
              have HJ := Lib.hid hj
              clear hr hj
              refine hK.out _ _ ?_ (fun hHeld => ?_)
              · exact hS
              clear hK K
              try simp only [Act.put, List.setIfInBounds_toArray, List.set_cons_zero, List.set_cons_succ]
              refine wpAnyH_ready (rs := [10]) (by kernel_rfl) (by simp) (st10 (fun K hK => ?_) AllReadyH.nil)
              refine (if_pos (by kernel_rfl)).mpr ?_
              obtain ⟨q6, c6, w6, hr, hj⟩ := HJ.out.apB qr2 r2 cr2 XB XQ.out.1 XQ.out.2.1 XQ.out.2.2 (by show 0 + r2 ≤ 1000000; omega)
              refine wp_app (.tmp 93) (.tmp 95) rfl rfl rfl hr ?_
              have hS := Lib.hid hj.bel
              have HJ := Lib.hid hj
              clear hr hj
              refine hK.out _ _ ?_ (fun hHeld => ?_)
              · exact hS
              clear hK K
              try simp only [Act.put, List.setIfInBounds_toArray, List.set_cons_zero, List.set_cons_succ]
              refine wpAnyH_ready (rs := [13]) (by kernel_rfl) (by simp) (st13 (fun K hK => ?_) AllReadyH.nil)
              refine (if_pos (by kernel_rfl)).mpr ?_
              obtain ⟨q7, c7, w7, hr, hj⟩ := HJ.out.apB qr3 r3 cr3 YB YQ.out.1 YQ.out.2.1 YQ.out.2.2 (by show 0 + r2 + r3 ≤ 1000000; omega)
              refine wp_app (.tmp 96) (.tmp 98) rfl rfl rfl hr ?_
              have hS := Lib.hid hj.bel
              have HJ := Lib.hid hj
              clear hr hj
              refine hK.out _ _ ?_ (fun hHeld => ?_)
              · exact hS
              clear hK K
              try simp only [Act.put, List.setIfInBounds_toArray, List.set_cons_zero, List.set_cons_succ]
              refine tk14 (v := .agg #[.slice q4 (0 + d2 + d3) c4, .slice q7 (0 + r2 + r3) c7]) (by kernel_rfl) (by kernel_rfl) (by kernel_rfl) (fun _ _ _ h => h) (Or.inl ⟨by kernel_rfl, ?_⟩) hS ?_
              · intro w' hSw
                go_simp; try with_reducible rfl
              simp only [Act.put, List.setIfInBounds_toArray, List.set_cons_zero, List.set_cons_succ]
              refine wpAnyH_ready (rs := [16]) (by kernel_rfl) (by simp) (st16 (fun K hK => ?_) AllReadyH.nil)
              obtain ⟨⟨c0, c1, f0, f1⟩, -⟩ := HJ.out.ox _ rfl
              go_simp
              have hj := HJ.out.fin
              simp only [Nat.zero_add, List.nil_append] at hj
              have hS := Lib.hid hj.bel
              clear c0 c1 f0 f1
              refine hK.out _ _ ?_ (fun hHeld => ?_)
              · exact hS
              clear hK K
              try simp only [Act.put, List.setIfInBounds_toArray, List.set_cons_zero, List.set_cons_succ]
              refine wpAnyH_done (by kernel_rfl) ?_ _
              exact TAIL _ _ ⟨_, _, _, by constructor, hj, (by simp only [Nat.zero_add]), (by simp only [Nat.zero_add]), (by simp only [List.nil_append]), (by simp only [List.nil_append])⟩
          · refine (if_pos (by kernel_rfl)).mpr ?_
            obtain ⟨q4, w4, hr, hj⟩ := HJ.out.mkX
            refine wp_alloc rfl hr ?_
            have hS := Lib.hid hj.bel
            have HJ := Lib.hid hj
            clear hr hj
            refine hK.out _ _ ?_ (fun hHeld => ?_)
            · exact hS
            clear hK K
            try simp only [Act.put, List.setIfInBounds_toArray, List.set_cons_zero, List.set_cons_succ]
            refine wpAnyH_ready (rs := [6]) (by kernel_rfl) (by simp) (st6 (fun K hK => ?_) AllReadyH.nil)
            refine (if_pos (by kernel_rfl)).mpr ?_
            obtain ⟨q5, c5, w5, hr, hj⟩ := HJ.out.apA qd3 d3 cd3 YA YP.out.1 YP.out.2.1 YP.out.2.2 (by show 0 + d2 + d3 ≤ 1000000; omega)
            refine wp_app (.tmp 89) (.tmp 91) rfl rfl rfl hr ?_
            have hS := Lib.hid hj.bel
            have HJ := Lib.hid hj
            clear hr hj
            refine hK.out _ _ ?_ (fun hHeld => ?_)
            · exact hS
            clear hK K
            try simp only [Act.put, List.setIfInBounds_toArray, List.set_cons_zero, List.set_cons_succ]
            refine wpAnyH_ready (rs := [10]) (by kernel_rfl) (by simp) (st10 (fun K hK => ?_) AllReadyH.nil)
            refine (if_pos (by kernel_rfl)).mpr ?_
            obtain ⟨q6, c6, w6, hr, hj⟩ := HJ.out.apB qr2 r2 cr2 XB XQ.out.1 XQ.out.2.1 XQ.out.2.2 (by show 0 + r2 ≤ 1000000; omega)
            refine wp_app (.tmp 93) (.tmp 95) rfl rfl rfl hr ?_
            have hS := Lib.hid hj.bel
            have HJ := Lib.hid hj
            clear hr hj
            refine hK.out _ _ ?_ (fun hHeld => ?_)
            · exact hS
            clear hK K
            try simp only [Act.put, List.setIfInBounds_toArray, List.set_cons_zero, List.set_cons_succ]
            refine wpAnyH_ready (rs := [13]) (by kernel_rfl) (by simp) (st13 (fun K hK => ?_) AllReadyH.nil)
            refine (if_pos (by kernel_rfl)).mpr ?_
            obtain ⟨q7, c7, w7, hr, hj⟩ := HJ.out.apB qr3 r3 cr3 YB YQ.out.1 YQ.out.2.1 YQ.out.2.2 (by show 0 + r2 + r3 ≤ 1000000; omega)
            refine wp_app (.tmp 96) (.tmp 98) rfl rfl rfl hr ?_
            have hS := Lib.hid hj.bel
            have HJ := Lib.hid hj
            clear hr hj
            refine hK.out _ _ ?_ (fun hHeld => ?_)
            · exact hS
            clear hK K
            try simp only [Act.put, List.setIfInBounds_toArray, List.set_cons_zero, List.set_cons_succ]
            refine tk14 (v := .agg #[.slice q5 (0 + d2 + d3) c5, .slice q7 (0 + r2 + r3) c7]) (by kernel_rfl) (by kernel_rfl) (by kernel_rfl) (fun _ _ _ h => h) (Or.inl ⟨by kernel_rfl, ?_⟩) hS ?_
            · intro w' hSw
              go_simp; try with_reducible rfl
            simp only [Act.put, List.setIfInBounds_toArray, List.set_cons_zero, List.set_cons_succ]
            refine wpAnyH_ready (rs := [16]) (by kernel_rfl) (by simp) (st16 (fun K hK => ?_) AllReadyH.nil)
            obtain ⟨⟨c0, c1, f0, f1⟩, -⟩ := HJ.out.ox _ rfl
            go_simp
            have hj := HJ.out.fin
            simp only [Nat.zero_add, List.nil_append] at hj
            have hS := Lib.hid hj.bel
            clear c0 c1 f0 f1
            refine hK.out _ _ ?_ (fun hHeld => ?_)
            · exact hS
            clear hK K
            try simp only [Act.put, List.setIfInBounds_toArray, List.set_cons_zero, List.set_cons_succ]
            refine wpAnyH_done (by kernel_rfl) ?_ _
            exact TAIL _ _ ⟨_, _, _, by constructor, hj, (by simp only [Nat.zero_add]), (by simp only [Nat.zero_add]), (by simp only [List.nil_append]), (by simp only [List.nil_append])⟩
        · refine (if_pos (by kernel_rfl)).mpr ?_
          obtain ⟨q3, w3, hr, hj⟩ := HJ.out.mkX
          refine wp_alloc rfl hr ?_
          have hS := Lib.hid hj.bel
          have HJ := Lib.hid hj
          clear hr hj
          refine hK.out _ _ ?_ (fun hHeld => ?_)
          · exact hS
          clear hK K
          try simp only [Act.put, List.setIfInBounds_toArray, List.set_cons_zero, List.set_cons_succ]
          refine wpAnyH_ready (rs := [6, 7]) (by kernel_rfl) (by simp) (st6 (fun K hK => ?_) (st7 (fun K hK => ?_) AllReadyH.nil))
          · refine (if_pos (by kernel_rfl)).mpr ?_
            obtain ⟨q4, c4, w4, hr, hj⟩ := HJ.out.apA qd3 d3 cd3 YA YP.out.1 YP.out.2.1 YP.out.2.2 (by show 0 + d2 + d3 ≤ 1000000; omega)
            refine wp_app (.tmp 89) (.tmp 91) rfl rfl rfl hr ?_
            have hS := Lib.hid hj.bel
            have HJ := Lib.hid hj
            clear hr hj
            refine hK.out _ _ ?_ (fun hHeld => ?_)
            · exact hS
            clear hK K
            try simp only [Act.put, List.setIfInBounds_toArray, List.set_cons_zero, List.set_cons_succ]
            refine wpAnyH_ready (rs := [7]) (by kernel_rfl) (by simp) (st7 (fun K hK => ?_) AllReadyH.nil)
            refine (if_pos (by kernel_rfl)).mpr ?_
            obtain ⟨q5, c5, w5, hr, hj⟩ := HJ.out.mkB
            refine wp_slice0 rfl hr ?_
            have hS := Lib.hid hj.bel
            have HJ := Lib.hid hj
            clear hr hj
            refine hK.out _ _ ?_ (fun hHeld => ?_)
            · exact hS
            clear hK K
            try simp only [Act.put, List.setIfInBounds_toArray, List.set_cons_zero, List.set_cons_succ]
            refine wpAnyH_ready (rs := [10]) (by kernel_rfl) (by simp) (st10 (fun K hK => ?_) AllReadyH.nil)
            refine (if_pos (by kernel_rfl)).mpr ?_
            obtain ⟨q6, c6, w6, hr, hj⟩ := HJ.out.apB qr2 r2 cr2 XB XQ.out.1 XQ.out.2.1 XQ.out.2.2 (by show 0 + r2 ≤ 1000000; omega)
            refine wp_app (.tmp 93) (.tmp 95) rfl rfl rfl hr ?_
            have hS := Lib.hid hj.bel
            have HJ := Lib.hid hj
            clear hr hj
            refine hK.out _ _ ?_ (fun hHeld => ?_)
            · exact hS
            clear hK K
            try simp only [Act.put, List.setIfInBounds_toArray, List.set_cons_zero, List.set_cons_succ]
            refine wpAnyH_ready (rs := [13]) (by kernel_rfl) (by simp) (st13 (fun K hK => ?_) AllReadyH.nil)
            refine (if_pos (by kernel_rfl)).mpr ?_
            obtain ⟨q7, c7, w7, hr, hj⟩ := HJ.out.apB qr3 r3 cr3 YB YQ.out.1 YQ.out.2.1 YQ.out.2.2 (by show 0 + r2 + r3 ≤ 1000000; omega)
            refine wp_app (.tmp 96) (.tmp 98) rfl rfl rfl hr ?_
            have hS := Lib.hid hj.bel
            have HJ := Lib.hid hj
            clear hr hj
            refine hK.out _ _ ?_ (fun hHeld => ?_)
            · exact hS
            clear hK K
            try simp only [Act.put, List.setIfInBounds_toArray, List.set_cons_zero, List.set_cons_succ]
            refine tk14 (v := .agg #[.slice q4 (0 + d2 + d3) c4, .slice q7 (0 + r2 + r3) c7]) (by kernel_rfl) (by kernel_rfl) (by kernel_rfl) (fun _ _ _ h => h) (Or.inl ⟨by kernel_rfl, ?_⟩) hS ?_
            · intro w' hSw
              go_simp; try with_reducible rfl
            simp only [Act.put, List.setIfInBounds_toArray, List.set_cons_zero, List.set_cons_succ]
            refine wpAnyH_ready (rs := [16]) (by kernel_rfl) (by simp) (st16 (fun K hK => ?_) AllReadyH.nil)
            obtain ⟨⟨c0, c1, f0, f1⟩, -⟩ := HJ.out.ox _ rfl
            go_simp
            have hj := HJ.out.fin
            simp only [Nat.zero_add, List.nil_append] at hj
            have hS := Lib.hid hj.bel
            clear c0 c1 f0 f1
            refine hK.out _ _ ?_ (fun hHeld => ?_)
            · exact hS
            clear hK K
            try simp only [Act.put, List.setIfInBounds_toArray, List.set_cons_zero, List.set_cons_succ]
            refine wpAnyH_done (by kernel_rfl) ?_ _
            exact TAIL _ _ ⟨_, _, _, by constructor, hj, (by simp only [Nat.zero_add]), (by simp only [Nat.zero_add]), (by simp only [List.nil_append]), (by simp only [List.nil_append])⟩
          · refine (if_pos (by kernel_rfl)).mpr ?_
            obtain ⟨q4, c4, w4, hr, hj⟩ := HJ.out.mkB
            refine wp_slice0 rfl hr ?_
            have hS := Lib.hid hj.bel
            have HJ := Lib.hid hj
            clear hr hj
            refine hK.out _ _ ?_ (fun hHeld => ?_)
            · exact hS
            clear hK K
            try simp only [Act.put, List.setIfInBounds_toArray, List.set_cons_zero, List.set_cons_succ]
            refine wpAnyH_ready (rs := [6]) (by kernel_rfl) (by simp) (st6 (fun K hK => ?_) AllReadyH.nil)
            refine (if_pos (by kernel_rfl)).mpr ?_
            obtain ⟨q5, c5, w5, hr, hj⟩ := HJ.out.apA qd3 d3 cd3 YA YP.out.1 YP.out.2.1 YP.out.2.2 (by show 0 + d2 + d3 ≤ 1000000; omega)
            refine wp_app (.tmp 89) (.tmp 91) rfl rfl rfl hr ?_
            have hS := Lib.hid hj.bel
            have HJ := Lib.hid hj
            clear hr hj
            refine hK.out _ _ ?_ (fun hHeld => ?_)
            · exact hS
            clear hK K
            try simp only [Act.put, List.setIfInBounds_toArray, List.set_cons_zero, List.set_cons_succ]
            refine wpAnyH_ready (rs := [10]) (by kernel_rfl) (by simp) (st10 (fun K hK => ?_) AllReadyH.nil)
            refine (if_pos (by kernel_rfl)).mpr ?_
            obtain ⟨q6, c6, w6, hr, hj⟩ := HJ.out.apB qr2 r2 cr2 XB XQ.out.1 XQ.out.2.1 XQ.out.2.2 (by show 0 + r2 ≤ 1000000; omega)
            refine wp_app (.tmp 93) (.tmp 95) rfl rfl rfl hr ?_
            have hS := Lib.hid hj.bel
            have HJ := Lib.hid hj
            clear hr hj
            refine hK.out _ _ ?_ (fun hHeld => ?_)
            · exact hS
            clear hK K
            try simp only [Act.put, List.setIfInBounds_toArray, List.set_cons_zero, List.set_cons_succ]
            refine wpAnyH_ready (rs := [13]) (by kernel_rfl) (by simp) (st13 (fun K hK => ?_) AllReadyH.nil)
            refine (if_pos (by kernel_rfl)).mpr ?_
            obtain ⟨q7, c7, w7, hr, hj⟩ := HJ.out.apB qr3 r3 cr3 YB YQ.out.1 YQ.out.2.1 YQ.out.2.2 (by show 0 + r2 + r3 ≤ 1000000; omega)
            refine wp_app (.tmp 96) (.tmp 98) rfl rfl rfl hr ?_
            have hS := Lib.hid hj.bel
            have HJ := Lib.hid hj
            clear hr hj
            refine hK.out _ _ ?_ (fun hHeld => ?_)
            · exact hS
            clear hK K
            try simp only [Act.put, List.setIfInBounds_toArray, List.set_cons_zero, List.set_cons_succ]
            refine tk14 (v := .agg #[.slice q5 (0 + d2 + d3) c5, .slice q7 (0 + r2 + r3) c7]) (by kernel_rfl) (by kernel_rfl) (by kernel_rfl) (fun _ _ _ h => h) (Or.inl ⟨by kernel_rfl, ?_⟩) hS ?_
            · intro w' hSw
              go_simp; try with_reducible rfl
            simp only [Act.put, List.setIfInBounds_toArray, List.set_cons_zero, List.set_cons_succ]
            refine wpAnyH_ready (rs := [16]) (by kernel_rfl) (by simp) (st16 (fun K hK => ?_) AllReadyH.nil)
            obtain ⟨⟨c0, c1, f0, f1⟩, -⟩ := HJ.out.ox _ rfl
            go_simp
            have hj := HJ.out.fin
            simp only [Nat.zero_add, List.nil_append] at hj
            have hS := Lib.hid hj.bel
            clear c0 c1 f0 f1
            refine hK.out _ _ ?_ (fun hHeld => ?_)
            · exact hS
            clear hK K
            try simp only [Act.put, List.setIfInBounds_toArray, List.set_cons_zero, List.set_cons_succ]
            refine wpAnyH_done (by kernel_rfl) ?_ _
            exact TAIL _ _ ⟨_, _, _, by constructor, hj, (by simp only [Nat.zero_add]), (by simp only [Nat.zero_add]), (by simp only [List.nil_append]), (by simp only [List.nil_append])⟩
      · refine (if_pos (by kernel_rfl)).mpr ?_
        obtain ⟨q2, c2, w2, hr, hj⟩ := HJ.out.mkB
        refine wp_slice0 rfl hr ?_
        have hS := Lib.hid hj.bel
        have HJ := Lib.hid hj
        clear hr hj
        refine hK.out _ _ ?_ (fun hHeld => ?_)
        · exact hS
        clear hK K
        try simp only [Act.put, List.setIfInBounds_toArray, List.set_cons_zero, List.set_cons_succ]
        refine wpAnyH_ready (rs := [3, 15]) (by kernel_rfl) (by simp) (st3 (fun K hK => ?_) (st15 (fun K hK => ?_) AllReadyH.nil))
        · refine (if_pos (by kernel_rfl)).mpr ?_
          obtain ⟨q3, c3, w3, hr, hj⟩ := HJ.out.apA qd2 d2 cd2 XA XP.out.1 XP.out.2.1 XP.out.2.2 (by show 0 + d2 ≤ 1000000; omega)
          refine wp_app (.tmp 86) (.tmp 88) rfl rfl rfl hr ?_
          have hS := Lib.hid hj.bel
          have HJ := Lib.hid hj
          clear hr hj
          refine hK.out _ _ ?_ (fun hHeld => ?_)
          · exact hS
          clear hK K
          try simp only [Act.put, List.setIfInBounds_toArray, List.set_cons_zero, List.set_cons_succ]
          refine wpAnyH_ready (rs := [6, 15]) (by kernel_rfl) (by simp) (st6 (fun K hK => ?_) (st15 (fun K hK => ?_) AllReadyH.nil))
          · refine (if_pos (by kernel_rfl)).mpr ?_
            obtain ⟨q4, c4, w4, hr, hj⟩ := HJ.out.apA qd3 d3 cd3 YA YP.out.1 YP.out.2.1 YP.out.2.2 (by show 0 + d2 + d3 ≤ 1000000; omega)
            refine wp_app (.tmp 89) (.tmp 91) rfl rfl rfl hr ?_
            have hS := Lib.hid hj.bel
            have HJ := Lib.hid hj
            clear hr hj
            refine hK.out _ _ ?_ (fun hHeld => ?_)
            · exact hS
            clear hK K
            try simp only [Act.put, List.setIfInBounds_toArray, List.set_cons_zero, List.set_cons_succ]
            refine wpAnyH_ready (rs := [10, 15]) (by kernel_rfl) (by simp) (st10 (fun K hK => ?_) (st15 (fun K hK => ?_) AllReadyH.nil))
            · refine (if_pos (by kernel_rfl)).mpr ?_
              obtain ⟨q5, c5, w5, hr, hj⟩ := HJ.out.apB qr2 r2 cr2 XB XQ.out.1 XQ.out.2.1 XQ.out.2.2 (by show 0 + r2 ≤ 1000000; omega)
              refine wp_app (.tmp 93) (.tmp 95) rfl rfl rfl hr ?_
              have hS := Lib.hid hj.bel
              have HJ := Lib.hid hj
              clear hr hj
              refine hK.out _ _ ?_ (fun hHeld => ?_)
              · exact hS
              clear hK K
              try simp only [Act.put, List.setIfInBounds_toArray, List.set_cons_zero, List.set_cons_succ]
              refine wpAnyH_ready (rs := [13, 15]) (by kernel_rfl) (by simp) (st13 (fun K hK => ?_) (st15 (fun K hK => ?_) AllReadyH.nil))
              · refine (if_pos (by kernel_rfl)).mpr ?_
                obtain ⟨q6, c6, w6, hr, hj⟩ := HJ.out.apB qr3 r3 cr3 YB YQ.out.1 YQ.out.2.1 YQ.out.2.2 (by show 0 + r2 + r3 ≤ 1000000; omega)
                refine wp_app (.tmp 96) (.tmp 98) rfl rfl rfl hr ?_
                have hS := Lib.hid hj.bel
                have HJ := Lib.hid hj
                clear hr hj
                refine hK.out _ _ ?_ (fun hHeld => ?_)
                · exact hS
                clear hK K
                try simp only [Act.put, List.setIfInBounds_toArray, List.set_cons_zero, List.set_cons_succ]
                refine tk14 (v := .agg #[.slice q4 (0 + d2 + d3) c4, .slice q6 (0 + r2 + r3) c6]) (by kernel_rfl) (by kernel_rfl) (by kernel_rfl) (fun _ _ _ h => h) (Or.inl ⟨by kernel_rfl, ?_⟩) hS ?_
                · intro w' hSw
                  go_simp; try with_reducible rfl
                simp only [Act.put, List.setIfInBounds_toArray, List.set_cons_zero, List.set_cons_succ]
                refine wpAnyH_ready (rs := [15]) (by kernel_rfl) (by simp) (st15 (fun K hK => ?_) AllReadyH.nil)
                refine (if_pos (by kernel_rfl)).mpr ?_
                obtain ⟨q7, w7, hr, hj⟩ := HJ.out.mkX
                refine wp_alloc rfl hr ?_
                have hS := Lib.hid hj.bel
                have HJ := Lib.hid hj
                clear hr hj
                refine hK.out _ _ ?_ (fun hHeld => ?_)
                · exact hS
                clear hK K
                try simp only [Act.put, List.setIfInBounds_toArray, List.set_cons_zero, List.set_cons_succ]
                refine wpAnyH_ready (rs := [16]) (by kernel_rfl) (by simp) (st16 (fun K hK => ?_) AllReadyH.nil)
                obtain ⟨⟨c0, c1, f0, f1⟩, -⟩ := HJ.out.ox _ rfl
                go_simp
                have hj := HJ.out.fin
                simp only [Nat.zero_add, List.nil_append] at hj
                have hS := Lib.hid hj.bel
                clear c0 c1 f0 f1
                refine hK.out _ _ ?_ (fun hHeld => ?_)
                · exact hS
                clear hK K
                try simp only [Act.put, List.setIfInBounds_toArray, List.set_cons_zero, List.set_cons_succ]
                refine wpAnyH_done (by kernel_rfl) ?_ _
                exact TAIL _ _ ⟨_, _, _, by constructor, hj, (by simp only [Nat.zero_add]), (by simp only [Nat.zero_add]), (by simp only [List.nil_append]), (by simp only [List.nil_append])⟩
              · refine (if_pos (by kernel_rfl)).mpr ?_
                obtain ⟨q6, w6, hr, hj⟩ := HJ.out.mkX
                refine wp_alloc rfl hr ?_
                have hS := Lib.hid hj.bel
                have HJ := Lib.hid hj
                clear hr hj
                refine hK.out _ _ ?_ (fun hHeld => ?_)
                · exact hS
                clear hK K
                try simp only [Act.put, List.setIfInBounds_toArray, List.set_cons_zero, List.set_cons_succ]
                refine wpAnyH_ready (rs := [13]) (by kernel_rfl) (by simp) (st13 (fun K hK => ?_) AllReadyH.nil)
                refine (if_pos (by kernel_rfl)).mpr ?_
                obtain ⟨q7, c7, w7, hr, hj⟩ := HJ.out.apB qr3 r3 cr3 YB YQ.out.1 YQ.out.2.1 YQ.out.2.2 (by show 0 + r2 + r3 ≤ 1000000; omega)
                refine wp_app (.tmp 96) (.tmp 98) rfl rfl rfl hr ?_
                have hS := Lib.hid hj.bel
                have HJ := Lib.hid hj
                clear hr hj
                refine hK.out _ _ ?_ (fun hHeld => ?_)
                · exact hS
                clear hK K
                try simp only [Act.put, List.setIfInBounds_toArray, List.set_cons_zero, List.set_cons_succ]
                refine tk14 (v := .agg #[.slice q4 (0 + d2 + d3) c4, .slice q7 (0 + r2 + r3) c7]) (by kernel_rfl) (by kernel_rfl) (by kernel_rfl) (fun _ _ _ h => h) (Or.inl ⟨by kernel_rfl, ?_⟩) hS ?_
                · intro w' hSw
                  go_simp; try with_reducible rfl
                simp only [Act.put, List.setIfInBounds_toArray, List.set_cons_zero, List.set_cons_succ]
                refine wpAnyH_ready (rs := [16]) (by kernel_rfl) (by simp) (st16 (fun K hK => ?_) AllReadyH.nil)
                obtain ⟨⟨c0, c1, f0, f1⟩, -⟩ := HJ.out.ox _ rfl
                go_simp
                have hj := HJ.out.fin
                simp only [Nat.zero_add, List.nil_append] at hj
                have hS := Lib.hid hj.bel
                clear c0 c1 f0 f1
                refine hK.out _ _ ?_ (fun hHeld => ?_)
                · exact hS
                clear hK K
                try simp only [Act.put, List.setIfInBounds_toArray, List.set_cons_zero, List.set_cons_succ]
                refine wpAnyH_done (by kernel_rfl) ?_ _
                exact TAIL _ _ ⟨_, _, _, by constructor, hj, (by simp only [Nat.zero_add]), (by simp only [Nat.zero_add]), (by simp only [List.nil_append]), (by simp only [List.nil_append])⟩
            · refine (if_pos (by kernel_rfl)).mpr ?_
              obtain ⟨q5, w5, hr, hj⟩ := HJ.out.mkX
              refine wp_alloc rfl hr ?_
              have hS := Lib.hid hj.bel
              have HJ := Lib.hid hj
              clear hr hj
              refine hK.out _ _ ?_ (fun hHeld => ?_)
              · exact hS
              clear hK K
              try simp only [Act.put, List.setIfInBounds_toArray, List.set_cons_zero, List.set_cons_succ]
              refine wpAnyH_ready (rs := [10]) (by kernel_rfl) (by simp) (st10 (fun K hK => ?_) AllReadyH.nil)
              refine (if_pos (by kernel_rfl)).mpr ?_
              obtain ⟨q6, c6, w6, hr, hj⟩ := HJ.out.apB qr2 r2 cr2 XB XQ.out.1 XQ.out.2.1 XQ.out.2.2 (by show 0 + r2 ≤ 1000000; omega)
              refine wp_app (.tmp 93) (.tmp 95) rfl rfl rfl hr ?_
              have hS := Lib.hid hj.bel
              have HJ := Lib.hid hj
              clear hr hj
              refine hK.out _ _ ?_ (fun hHeld => ?_)
              · exact hS
              clear hK K
              try simp only [Act.put, List.setIfInBounds_toArray, List.set_cons_zero, List.set_cons_succ]
              refine wpAnyH_ready (rs := [13]) (by kernel_rfl) (by simp) (st13 (fun K hK => ?_) AllReadyH.nil)
              refine (if_pos (by kernel_rfl)).mpr ?_
              obtain ⟨q7, c7, w7, hr, hj⟩ := HJ.out.apB qr3 r3 cr3 YB YQ.out.1 YQ.out.2.1 YQ.out.2.2 (by show 0 + r2 + r3 ≤ 1000000; omega)
              refine wp_app (.tmp 96) (.tmp 98) rfl rfl rfl hr ?_
              have hS := Lib.hid hj.bel
              have HJ := Lib.hid hj
              clear hr hj
              refine hK.out _ _ ?_ (fun hHeld => ?_)
              · exact hS
              clear hK K
              try simp only [Act.put, List.setIfInBounds_toArray, List.set_cons_zero, List.set_cons_succ]
              refine tk14 (v := .agg #[.slice q4 (0 + d2 + d3) c4, .slice q7 (0 + r2 + r3) c7]) (by kernel_rfl) (by kernel_rfl) (by kernel_rfl) (fun _ _ _ h => h) (Or.inl ⟨by kernel_rfl, ?_⟩) hS ?_
              · intro w' hSw
                go_simp; try with_reducible rfl
              simp only [Act.put, List.setIfInBounds_toArray, List.set_cons_zero, List.set_cons_succ]
              refine wpAnyH_ready (rs := [16]) (by kernel_rfl) (by simp) (st16 (fun K hK => ?_) AllReadyH.nil)
              obtain ⟨⟨c0, c1, f0, f1⟩, -⟩ := HJ.out.ox _ rfl
              go_simp
              have hj := HJ.out.fin
              simp only [Nat.zero_add, List.nil_append] at hj
              have hS := Lib.hid hj.bel
              clear c0 c1 f0 f1
              refine hK.out _ _ ?_ (fun hHeld => ?_)
              · exact hS
              clear hK K
              try simp only [Act.put, List.setIfInBounds_toArray, List.set_cons_zero, List.set_cons_succ]
              refine wpAnyH_done (by kernel_rfl) ?_ _
              exact TAIL _ _ ⟨_, _, _, by constructor, hj, (by simp only [Nat.zero_add]), (by simp only [Nat.zero_add]), (by simp only [List.nil_append]), (by simp only [List.nil_append])⟩
          · refine (if_pos (by kernel_rfl)).mpr ?_
            obtain ⟨q4, w4, hr, hj⟩ := HJ.out.mkX
            refine wp_alloc rfl hr ?_
            have hS := Lib.hid hj.bel
            have HJ := Lib.hid hj
            clear hr hj
            refine hK.out _ _ ?_ (fun hHeld => ?_)
            · exact hS
            clear hK K
            try simp only [Act.put, List.setIfInBounds_toArray, List.set_cons_zero, List.set_cons_succ]
            refine wpAnyH_ready (rs := [6]) (by kernel_rfl) (by simp) (st6 (fun K hK => ?_) AllReadyH.nil)
            refine (if_pos (by kernel_rfl)).mpr ?_
            obtain ⟨q5, c5, w5, hr, hj⟩ := HJ.out.apA qd3 d3 cd3 YA YP.out.1 YP.out.2.1 YP.out.2.2 (by show 0 + d2 + d3 ≤ 1000000; omega)
            refine wp_app (.tmp 89) (.tmp 91) rfl rfl rfl hr ?_
            have hS := Lib.hid hj.bel
            have HJ := Lib.hid hj
            clear hr hj
            refine hK.out _ _ ?_ (fun hHeld => ?_)
            · exact hS
            clear hK K
            try simp only [Act.put, List.setIfInBounds_toArray, List.set_cons_zero, List.set_cons_succ]
            refine wpAnyH_ready (rs := [10]) (by kernel_rfl) (by simp) (st10 (fun K hK => ?_) AllReadyH.nil)
            refine (if_pos (by kernel_rfl)).mpr ?_
            obtain ⟨q6, c6, w6, hr, hj⟩ := HJ.out.apB qr2 r2 cr2 XB XQ.out.1 XQ.out.2.1 XQ.out.2.2 (by show 0 + r2 ≤ 1000000; omega)
            refine wp_app (.tmp 93) (.tmp 95) rfl rfl rfl hr ?_
            have hS := Lib.hid hj.bel
            have HJ := Lib.hid hj
            clear hr hj
            refine hK.out _ _ ?_ (fun hHeld => ?_)
            · exact hS
            clear hK K
            try simp only [Act.put, List.setIfInBounds_toArray, List.set_cons_zero, List.set_cons_succ]
            refine wpAnyH_ready (rs := [13]) (by kernel_rfl) (by simp) (st13 (fun K hK => ?_) AllReadyH.nil)
            refine (if_pos (by kernel_rfl)).mpr ?_
            obtain ⟨q7, c7, w7, hr, hj⟩ := HJ.out.apB qr3 r3 cr3 YB YQ.out.1 YQ.out.2.1 YQ.out.2.2 (by show 0 + r2 + r3 ≤ 1000000; omega)
            refine wp_app (.tmp 96) (.tmp 98) rfl rfl rfl hr ?_
            have hS := Lib.hid hj.bel
            have HJ := Lib.hid hj
            clear hr hj
            refine hK.out _ _ ?_ (fun hHeld => ?_)
            · exact hS
            clear hK K
            try simp only [Act.put, List.setIfInBounds_toArray, List.set_cons_zero, List.set_cons_succ]
            refine tk14 (v := .agg #[.slice q5 (0 + d2 + d3) c5, .slice q7 (0 + r2 + r3) c7]) (by kernel_rfl) (by kernel_rfl) (by kernel_rfl) (fun _ _ _ h => h) (Or.inl ⟨by kernel_rfl, ?_⟩) hS ?_
            · intro w' hSw
              go_simp; try with_reducible rfl
            simp only [Act.put, List.setIfInBounds_toArray, List.set_cons_zero, List.set_cons_succ]
            refine wpAnyH_ready (rs := [16]) (by kernel_rfl) (by simp) (st16 (fun K hK => ?_) AllReadyH.nil)
            obtain ⟨⟨c0, c1, f0, f1⟩, -⟩ := HJ.out.ox _ rfl
            go_simp
            have hj := HJ.out.fin
            simp only [Nat.zero_add, List.nil_append] at hj
            have hS := Lib.hid hj.bel
            clear c0 c1 f0 f1
            refine hK.out _ _ ?_ (fun hHeld => ?_)
            · exact hS
            clear hK K
            try simp only [Act.put, List.setIfInBounds_toArray, List.set_cons_zero, List.set_cons_succ]
            refine wpAnyH_done (by kernel_rfl) ?_ _
            exact TAIL _ _ ⟨_, _, _, by constructor, hj, (by simp only [Nat.zero_add]), (by simp only [Nat.zero_add]), (by simp only [List.nil_append]), (by simp only [List.nil_append])⟩
        · refine (if_pos (by kernel_rfl)).mpr ?_
          obtain ⟨q3, w3, hr, hj⟩ := HJ.out.mkX
          refine wp_alloc rfl hr ?_
          have hS := Lib.hid hj.bel
          have HJ := Lib.hid hj
          clear hr hj
          refine hK.out _ _ ?_ (fun hHeld => ?_)
          · exact hS
          clear hK K
          try simp only [Act.put, List.setIfInBounds_toArray, List.set_cons_zero, List.set_cons_succ]
          refine wpAnyH_ready (rs := [3]) (by kernel_rfl) (by simp) (st3 (fun K hK => ?_) AllReadyH.nil)
          refine (if_pos (by kernel_rfl)).mpr ?_
          obtain ⟨q4, c4, w4, hr, hj⟩ := HJ.out.apA qd2 d2 cd2 XA XP.out.1 XP.out.2.1 XP.out.2.2 (by show 0 + d2 ≤ 1000000; omega)
          refine wp_app (.tmp 86) (.tmp 88) rfl rfl rfl hr ?_
          have hS := Lib.hid hj.bel
          have HJ := Lib.hid hj
          clear hr hj
          refine hK.out _ _ ?_ (fun hHeld => ?_)
          · exact hS
          clear hK K
          try simp only [Act.put, List.setIfInBounds_toArray, List.set_cons_zero, List.set_cons_succ]
          refine wpAnyH_ready (rs := [6]) (by kernel_rfl) (by simp) (st6 (fun K hK => ?_) AllReadyH.nil)
          refine (if_pos (by kernel_rfl)).mpr ?_
          obtain ⟨q5, c5, w5, hr, hj⟩ := HJ.out.apA qd3 d3 cd3 YA YP.out.1 YP.out.2.1 YP.out.2.2 (by show 0 + d2 + d3 ≤ 1000000; omega)
          refine wp_app (.tmp 89) (.tmp 91) rfl rfl rfl hr ?_
          have hS := Lib.hid hj.bel
          have HJ := Lib.hid hj
          clear hr hj
          refine hK.out _ _ ?_ (fun hHeld => ?_)
          · exact hS
          clear hK K
          try simp only [Act.put, List.setIfInBounds_toArray, List.set_cons_zero, List.set_cons_succ]
          refine wpAnyH_ready (rs := [10]) (by kernel_rfl) (by simp) (st10 (fun K hK => ?_) AllReadyH.nil)
          refine (if_pos (by kernel_rfl)).mpr ?_
          obtain ⟨q6, c6, w6, hr, hj⟩ := HJ.out.apB qr2 r2 cr2 XB XQ.out.1 XQ.out.2.1 XQ.out.2.2 (by show 0 + r2 ≤ 1000000; omega)
          refine wp_app (.tmp 93) (.tmp 95) rfl rfl rfl hr ?_
          have hS := Lib.hid hj.bel
          have HJ := Lib.hid hj
          clear hr hj
          refine hK.out _ _ ?_ (fun hHeld => ?_)
          · exact hS
          clear hK K
          try simp only [Act.put, List.setIfInBounds_toArray, List.set_cons_zero, List.set_cons_succ]
          refine wpAnyH_ready (rs := [13]) (by kernel_rfl) (by simp) (st13 (fun K hK => ?_) AllReadyH.nil)
          refine (if_pos (by kernel_rfl)).mpr ?_
          obtain ⟨q7, c7, w7, hr, hj⟩ := HJ.out.apB qr3 r3 cr3 YB YQ.out.1 YQ.out.2.1 YQ.out.2.2 (by show 0 + r2 + r3 ≤ 1000000; omega)
          refine wp_app (.tmp 96) (.tmp 98) rfl rfl rfl hr ?_
          have hS := Lib.hid hj.bel
          have HJ := Lib.hid hj
          clear hr hj
          refine hK.out _ _ ?_ (fun hHeld => ?_)
          · exact hS
          clear hK K
          try simp only [Act.put, List.setIfInBounds_toArray, List.set_cons_zero, List.set_cons_succ]
          refine tk14 (v := .agg #[.slice q5 (0 + d2 + d3) c5, .slice q7 (0 + r2 + r3) c7]) (by kernel_rfl) (by kernel_rfl) (by kernel_rfl) (fun _ _ _ h => h) (Or.inl ⟨by kernel_rfl, ?_⟩) hS ?_
          · intro w' hSw
            go_simp; try with_reducible rfl
          simp only [Act.put, List.setIfInBounds_toArray, List.set_cons_zero, List.set_cons_succ]
          refine wpAnyH_ready (rs := [16]) (by kernel_rfl) (by simp) (st16 (fun K hK => ?_) AllReadyH.nil)
          obtain ⟨⟨c0, c1, f0, f1⟩, -⟩ := HJ.out.ox _ rfl
          go_simp
          have hj := HJ.out.fin
          simp only [Nat.zero_add, List.nil_append] at hj
          have hS := Lib.hid hj.bel
          clear c0 c1 f0 f1
          refine hK.out _ _ ?_ (fun hHeld => ?_)
          · exact hS
          clear hK K
          try simp only [Act.put, List.setIfInBounds_toArray, List.set_cons_zero, List.set_cons_succ]
          refine wpAnyH_done (by kernel_rfl) ?_ _
          exact TAIL _ _ ⟨_, _, _, by constructor, hj, (by simp only [Nat.zero_add]), (by simp only [Nat.zero_add]), (by simp only [List.nil_append]), (by simp only [List.nil_append])⟩
      · refine (if_pos (by kernel_rfl)).mpr ?_
        obtain ⟨q2, w2, hr, hj⟩ := HJ.out.mkX
        refine wp_alloc rfl hr ?_
        have hS := Lib.hid hj.bel
        have HJ := Lib.hid hj
        clear hr hj
        refine hK.out _ _ ?_ (fun hHeld => ?_)
        · exact hS
        clear hK K
        try simp only [Act.put, List.setIfInBounds_toArray, List.set_cons_zero, List.set_cons_succ]
        refine wpAnyH_ready (rs := [3, 7]) (by kernel_rfl) (by simp) (st3 (fun K hK => ?_) (st7 (fun K hK => ?_) AllReadyH.nil))
        · refine (if_pos (by kernel_rfl)).mpr ?_
          obtain ⟨q3, c3, w3, hr, hj⟩ := HJ.out.apA qd2 d2 cd2 XA XP.out.1 XP.out.2.1 XP.out.2.2 (by show 0 + d2 ≤ 1000000; omega)
          refine wp_app (.tmp 86) (.tmp 88) rfl rfl rfl hr ?_
          have hS := Lib.hid hj.bel
          have HJ := Lib.hid hj
          clear hr hj
          refine hK.out _ _ ?_ (fun hHeld => ?_)
          · exact hS
          clear hK K
          try simp only [Act.put, List.setIfInBounds_toArray, List.set_cons_zero, List.set_cons_succ]
          refine wpAnyH_ready (rs := [6, 7]) (by kernel_rfl) (by simp) (st6 (fun K hK => ?_) (st7 (fun K hK => ?_) AllReadyH.nil))
          · refine (if_pos (by kernel_rfl)).mpr ?_
            obtain ⟨q4, c4, w4, hr, hj⟩ := HJ.out.apA qd3 d3 cd3 YA YP.out.1 YP.out.2.1 YP.out.2.2 (by show 0 + d2 + d3 ≤ 1000000; omega)
            refine wp_app (.tmp 89) (.tmp 91) rfl rfl rfl hr ?_
            have hS := Lib.hid hj.bel
            have HJ := Lib.hid hj
            clear hr hj
            refine hK.out _ _ ?_ (fun hHeld => ?_)
            · exact hS
            clear hK K
            try simp only [Act.put, List.setIfInBounds_toArray, List.set_cons_zero, List.set_cons_succ]
            refine wpAnyH_ready (rs := [7]) (by kernel_rfl) (by simp) (st7 (fun K hK => ?_) AllReadyH.nil)
            refine (if_pos (by kernel_rfl)).mpr ?_
            obtain ⟨q5, c5, w5, hr, hj⟩ := HJ.out.mkB
            refine wp_slice0 rfl hr ?_
            have hS := Lib.hid hj.bel
            have HJ := Lib.hid hj
            clear hr hj
            refine hK.out _ _ ?_ (fun hHeld => ?_)
            · exact hS
            clear hK K
            try simp only [Act.put, List.setIfInBounds_toArray, List.set_cons_zero, List.set_cons_succ]
            refine wpAnyH_ready (rs := [10]) (by kernel_rfl) (by simp) (st10 (fun K hK => ?_) AllReadyH.nil)
            refine (if_pos (by kernel_rfl)).mpr ?_
            obtain ⟨q6, c6, w6, hr, hj⟩ := HJ.out.apB qr2 r2 cr2 XB XQ.out.1 XQ.out.2.1 XQ.out.2.2 (by show 0 + r2 ≤ 1000000; omega)
            refine wp_app (.tmp 93) (.tmp 95) rfl rfl rfl hr ?_
            have hS := Lib.hid hj.bel
            have HJ := Lib.hid hj
            clear hr hj
            refine hK.out _ _ ?_ (fun hHeld => ?_)
            · exact hS
            clear hK K
            try simp only [Act.put, List.setIfInBounds_toArray, List.set_cons_zero, List.set_cons_succ]
            refine wpAnyH_ready (rs := [13]) (by kernel_rfl) (by simp) (st13 (fun K hK => ?_) AllReadyH.nil)
            refine (if_pos (by kernel_rfl)).mpr ?_
            obtain ⟨q7, c7, w7, hr, hj⟩ := HJ.out.apB qr3 r3 cr3 YB YQ.out.1 YQ.out.2.1 YQ.out.2.2 (by show 0 + r2 + r3 ≤ 1000000; omega)
            refine wp_app (.tmp 96) (.tmp 98) rfl rfl rfl hr ?_
            have hS := Lib.hid hj.bel
            have HJ := Lib.hid hj
            clear hr hj
            refine hK.out _ _ ?_ (fun hHeld => ?_)
            · exact hS
            clear hK K
            try simp only [Act.put, List.setIfInBounds_toArray, List.set_cons_zero, List.set_cons_succ]
            refine tk14 (v := .agg #[.slice q4 (0 + d2 + d3) c4, .slice q7 (0 + r2 + r3) c7]) (by kernel_rfl) (by kernel_rfl) (by kernel_rfl) (fun _ _ _ h => h) (Or.inl ⟨by kernel_rfl, ?_⟩) hS ?_
            · intro w' hSw
              go_simp; try with_reducible rfl
            simp only [Act.put, List.setIfInBounds_toArray, List.set_cons_zero, List.set_cons_succ]
            refine wpAnyH_ready (rs := [16]) (by kernel_rfl) (by simp) (st16 (fun K hK => ?_) AllReadyH.nil)
            obtain ⟨⟨c0, c1, f0, f1⟩, -⟩ := HJ.out.ox _ rfl
            go_simp
            have hj := HJ.out.fin
            simp only [Nat.zero_add, List.nil_append] at hj
            have hS := Lib.hid hj.bel
            clear c0 c1 f0 f1
            refine hK.out _ _ ?_ (fun hHeld => ?_)
            · exact hS
            clear hK K
            try simp only [Act.put, List.setIfInBounds_toArray, List.set_cons_zero, List.set_cons_succ]
            refine wpAnyH_done (by kernel_rfl) ?_ _
            exact TAIL _ _ ⟨_, _, _, by constructor, hj, (by simp only [Nat.zero_add]), (by simp only [Nat.zero_add]), (by simp only [List.nil_append]), (by simp only [List.nil_append])⟩
          · refine (if_pos (by kernel_rfl)).mpr ?_
            obtain ⟨q4, c4, w4, hr, hj⟩ := HJ.out.mkB
            refine wp_slice0 rfl hr ?_
            have hS := Lib.hid hj.bel
            have HJ := Lib.hid hj
            clear hr hj
            refine hK.out _ _ ?_ (fun hHeld => ?_)
            · exact hS
            clear hK K
            try simp only [Act.put, List.setIfInBounds_toArray, List.set_cons_zero, List.set_cons_succ]
            refine wpAnyH_ready (rs := [6]) (by kernel_rfl) (by simp) (st6 (fun K hK => ?_) AllReadyH.nil)
            refine (if_pos (by kernel_rfl)).mpr ?_
            obtain ⟨q5, c5, w5, hr, hj⟩ := HJ.out.apA qd3 d3 cd3 YA YP.out.1 YP.out.2.1 YP.out.2.2 (by show 0 + d2 + d3 ≤ 1000000; omega)
            refine wp_app (.tmp 89) (.tmp 91) rfl rfl rfl hr ?_
            have hS := Lib.hid hj.bel
            have HJ := Lib.hid hj
            clear hr hj
            refine hK.out _ _ ?_ (fun hHeld => ?_)
            · exact hS
            clear hK K
            try simp only [Act.put, List.setIfInBounds_toArray, List.set_cons_zero, List.set_cons_succ]
            refine wpAnyH_ready (rs := [10]) (by kernel_rfl) (by simp) (st10 (fun K hK => ?_) AllReadyH.nil)
            refine (if_pos (by kernel_rfl)).mpr ?_
            obtain ⟨q6, c6, w6, hr, hj⟩ := HJ.out.apB qr2 r2 cr2 XB XQ.out.1 XQ.out.2.1 XQ.out.2.2 (by show 0 + r2 ≤ 1000000; omega)
            refine wp_app (.tmp 93) (.tmp 95) rfl rfl rfl hr ?_
            have hS := Lib.hid hj.bel
            have HJ := Lib.hid hj
            clear hr hj
            refine hK.out _ _ ?_ (fun hHeld => ?_)
            · exact hS
            clear hK K
            try simp only [Act.put, List.setIfInBounds_toArray, List.set_cons_zero, List.set_cons_succ]
            refine wpAnyH_ready (rs := [13]) (by kernel_rfl) (by simp) (st13 (fun K hK => ?_) AllReadyH.nil)
            refine (if_pos (by kernel_rfl)).mpr ?_
            obtain ⟨q7, c7, w7, hr, hj⟩ := HJ.out.apB qr3 r3 cr3 YB YQ.out.1 YQ.out.2.1 YQ.out.2.2 (by show 0 + r2 + r3 ≤ 1000000; omega)
            refine wp_app (.tmp 96) (.tmp 98) rfl rfl rfl hr ?_
            have hS := Lib.hid hj.bel
            have HJ := Lib.hid hj
            clear hr hj
            refine hK.out _ _ ?_ (fun hHeld => ?_)
            · exact hS
            clear hK K
            try simp only [Act.put, List.setIfInBounds_toArray, List.set_cons_zero, List.set_cons_succ]
            refine tk14 (v := .agg #[.slice q5 (0 + d2 + d3) c5, .slice q7 (0 + r2 + r3) c7]) (by kernel_rfl) (by kernel_rfl) (by kernel_rfl) (fun _ _ _ h => h) (Or.inl ⟨by kernel_rfl, ?_⟩) hS ?_
            · intro w' hSw
              go_simp; try with_reducible rfl
            simp only [Act.put, List.setIfInBounds_toArray, List.set_cons_zero, List.set_cons_succ]
            refine wpAnyH_ready (rs := [16]) (by kernel_rfl) (by simp) (st16 (fun K hK => ?_) AllReadyH.nil)
            obtain ⟨⟨c0, c1, f0, f1⟩, -⟩ := HJ.out.ox _ rfl
            go_simp
            have hj := HJ.out.fin
            simp only [Nat.zero_add, List.nil_append] at hj
            have hS := Lib.hid hj.bel
            clear c0 c1 f0 f1
            refine hK.out _ _ ?_ (fun hHeld => ?_)
            · exact hS
            clear hK K
            try simp only [Act.put, List.setIfInBounds_toArray, List.set_cons_zero, List.set_cons_succ]
            refine wpAnyH_done (by kernel_rfl) ?_ _
            exact TAIL _ _ ⟨_, _, _, by constructor, hj, (by simp only [Nat.zero_add]), (by simp only [Nat.zero_add]), (by simp only [List.nil_append]), (by simp only [List.nil_append])⟩
        · refine (if_pos (by kernel_rfl)).mpr ?_
          obtain ⟨q3, c3, w3, hr, hj⟩ := HJ.out.mkB
          refine wp_slice0 rfl hr ?_
          have hS := Lib.hid hj.bel
          have HJ := Lib.hid hj
          clear hr hj
          refine hK.out _ _ ?_ (fun hHeld => ?_)
          · exact hS
          clear hK K
          try simp only [Act.put, List.setIfInBounds_toArray, List.set_cons_zero, List.set_cons_succ]
          refine wpAnyH_ready (rs := [3]) (by kernel_rfl) (by simp) (st3 (fun K hK => ?_) AllReadyH.nil)
          refine (if_pos (by kernel_rfl)).mpr ?_
          obtain ⟨q4, c4, w4, hr, hj⟩ := HJ.out.apA qd2 d2 cd2 XA XP.out.1 XP.out.2.1 XP.out.2.2 (by show 0 + d2 ≤ 1000000; omega)
          refine wp_app (.tmp 86) (.tmp 88) rfl rfl rfl hr ?_
          have hS := Lib.hid hj.bel
          have HJ := Lib.hid hj
          clear hr hj
          refine hK.out _ _ ?_ (fun hHeld => ?_)
          · exact hS
          clear hK K
          try simp only [Act.put, List.setIfInBounds_toArray, List.set_cons_zero, List.set_cons_succ]
          refine wpAnyH_ready (rs := [6]) (by kernel_rfl) (by simp) (st6 (fun K hK => ?_) AllReadyH.nil)
          refine (if_pos (by kernel_rfl)).mpr ?_
          obtain ⟨q5, c5, w5, hr, hj⟩ := HJ.out.apA qd3 d3 cd3 YA YP.out.1 YP.out.2.1 YP.out.2.2 (by show 0 + d2 + d3 ≤ 1000000; omega)
          refine wp_app (.tmp 89) (.tmp 91) rfl rfl rfl hr ?_
          have hS := Lib.hid hj.bel
          have HJ := Lib.hid hj
          clear hr hj
          refine hK.out _ _ ?_ (fun hHeld => ?_)
          · exact hS
          clear hK K
          try simp only [Act.put, List.setIfInBounds_toArray, List.set_cons_zero, List.set_cons_succ]
          refine wpAnyH_ready (rs := [10]) (by kernel_rfl) (by simp) (st10 (fun K hK => ?_) AllReadyH.nil)
          refine (if_pos (by kernel_rfl)).mpr ?_
          obtain ⟨q6, c6, w6, hr, hj⟩ := HJ.out.apB qr2 r2 cr2 XB XQ.out.1 XQ.out.2.1 XQ.out.2.2 (by show 0 + r2 ≤ 1000000; omega)
          refine wp_app (.tmp 93) (.tmp 95) rfl rfl rfl hr ?_
          have hS := Lib.hid hj.bel
          have HJ := Lib.hid hj
          clear hr hj
          refine hK.out _ _ ?_ (fun hHeld => ?_)
          · exact hS
          clear hK K
          try simp only [Act.put, List.setIfInBounds_toArray, List.set_cons_zero, List.set_cons_succ]
          refine wpAnyH_ready (rs := [13]) (by kernel_rfl) (by simp) (st13 (fun K hK => ?_) AllReadyH.nil)
          refine (if_pos (by kernel_rfl)).mpr ?_
          obtain ⟨q7, c7, w7, hr, hj⟩ := HJ.out.apB qr3 r3 cr3 YB YQ.out.1 YQ.out.2.1 YQ.out.2.2 (by show 0 + r2 + r3 ≤ 1000000; omega)
          refine wp_app (.tmp 96) (.tmp 98) rfl rfl rfl hr ?_
          have hS := Lib.hid hj.bel
          have HJ := Lib.hid hj
          clear hr hj
          refine hK.out _ _ ?_ (fun hHeld => ?_)
          · exact hS
          clear hK K
          try simp only [Act.put, List.setIfInBounds_toArray, List.set_cons_zero, List.set_cons_succ]
          refine tk14 (v := .agg #[.slice q5 (0 + d2 + d3) c5, .slice q7 (0 + r2 + r3) c7]) (by kernel_rfl) (by kernel_rfl) (by kernel_rfl) (fun _ _ _ h => h) (Or.inl ⟨by kernel_rfl, ?_⟩) hS ?_
          · intro w' hSw
            go_simp; try with_reducible rfl
          simp only [Act.put, List.setIfInBounds_toArray, List.set_cons_zero, List.set_cons_succ]
          refine wpAnyH_ready (rs := [16]) (by kernel_rfl) (by simp) (st16 (fun K hK => ?_) AllReadyH.nil)
          obtain ⟨⟨c0, c1, f0, f1⟩, -⟩ := HJ.out.ox _ rfl
          go_simp
          have hj := HJ.out.fin
          simp only [Nat.zero_add, List.nil_append] at hj
          have hS := Lib.hid hj.bel
          clear c0 c1 f0 f1
          refine hK.out _ _ ?_ (fun hHeld => ?_)
          · exact hS
          clear hK K
          try simp only [Act.put, List.setIfInBounds_toArray, List.set_cons_zero, List.set_cons_succ]
          refine wpAnyH_done (by kernel_rfl) ?_ _
          exact TAIL _ _ ⟨_, _, _, by constructor, hj, (by simp only [Nat.zero_add]), (by simp only [Nat.zero_add]), (by simp only [List.nil_append]), (by simp only [List.nil_append])⟩
    · refine (if_pos (by kernel_rfl)).mpr ?_
      obtain ⟨q1, c1, w1, hr, hj⟩ := HJ.out.mkB
      refine wp_slice0 rfl hr ?_
      have hS := Lib.hid hj.bel
      have HJ := Lib.hid hj
      clear hr hj
      refine hK.out _ _ ?_ (fun hHeld => ?_)
      · exact hS
      clear hK K
      try simp only [Act.put, List.setIfInBounds_toArray, List.set_cons_zero, List.set_cons_succ]
      refine wpAnyH_ready (rs := [0, 15]) (by kernel_rfl) (by simp) (st0 (fun K hK => ?_) (st15 (fun K hK => ?_) AllReadyH.nil))
      · refine (if_pos (by kernel_rfl)).mpr ?_
        obtain ⟨q2, c2, w2, hr, hj⟩ := HJ.out.mkA
        refine wp_slice0 rfl hr ?_
        have hS := Lib.hid hj.bel
        have HJ := Lib.hid hj
        clear hr hj
        refine hK.out _ _ ?_ (fun hHeld => ?_)
        · exact hS
        clear hK K
        try simp only [Act.put, List.setIfInBounds_toArray, List.set_cons_zero, List.set_cons_succ]
        refine wpAnyH_ready (rs := [3, 15]) (by kernel_rfl) (by simp) (st3 (fun K hK => ?_) (st15 (fun K hK => ?_) AllReadyH.nil))
        · refine (if_pos (by kernel_rfl)).mpr ?_
          obtain ⟨q3, c3, w3, hr, hj⟩ := HJ.out.apA qd2 d2 cd2 XA XP.out.1 XP.out.2.1 XP.out.2.2 (by show 0 + d2 ≤ 1000000; omega)
          refine wp_app (.tmp 86) (.tmp 88) rfl rfl rfl hr ?_
          have hS := Lib.hid hj.bel
          have HJ := Lib.hid hj
          clear hr hj
          refine hK.out _ _ ?_ (fun hHeld => ?_)
          · exact hS
          clear hK K
          try simp only [Act.put, List.setIfInBounds_toArray, List.set_cons_zero, List.set_cons_succ]
          refine wpAnyH_ready (rs := [6, 15]) (by kernel_rfl) (by simp) (st6 (fun K hK => ?_) (st15 (fun K hK => ?_) AllReadyH.nil))
          · refine (if_pos (by kernel_rfl)).mpr ?_
            obtain ⟨q4, c4, w4, hr, hj⟩ := HJ.out.apA qd3 d3 cd3 YA YP.out.1 YP.out.2.1 YP.out.2.2 (by show 0 + d2 + d3 ≤ 1000000; omega)
            refine wp_app (.tmp 89) (.tmp 91) rfl rfl rfl hr ?_
            have hS := Lib.hid hj.bel
            have HJ := Lib.hid hj
            clear hr hj
            refine hK.out _ _ ?_ (fun hHeld => ?_)
            · exact hS
            clear hK K
            try simp only [Act.put, List.setIfInBounds_toArray, List.set_cons_zero, List.set_cons_succ]
            refine wpAnyH_ready (rs := [10, 15]) (by kernel_rfl) (by simp) (st10 (fun K hK => ?_) (st15 (fun K hK => ?_) AllReadyH.nil))
            · refine (if_pos (by kernel_rfl)).mpr ?_
              obtain ⟨q5, c5, w5, hr, hj⟩ := HJ.out.apB qr2 r2 cr2 XB XQ.out.1 XQ.out.2.1 XQ.out.2.2 (by show 0 + r2 ≤ 1000000; omega)
              refine wp_app (.tmp 93) (.tmp 95) rfl rfl rfl hr ?_
              have hS := Lib.hid hj.bel
              have HJ := Lib.hid hj
              clear hr hj
              refine hK.out _ _ ?_ (fun hHeld => ?_)
              · exact hS
              clear hK K
              try simp only [Act.put, List.setIfInBounds_toArray, List.set_cons_zero, List.set_cons_succ]
              refine wpAnyH_ready (rs := [13, 15]) (by kernel_rfl) (by simp) (st13 (fun K hK => ?_) (st15 (fun K hK => ?_) AllReadyH.nil))
              · refine (if_pos (by kernel_rfl)).mpr ?_
                obtain ⟨q6, c6, w6, hr, hj⟩ := HJ.out.apB qr3 r3 cr3 YB YQ.out.1 YQ.out.2.1 YQ.out.2.2 (by show 0 + r2 + r3 ≤ 1000000; omega)
                refine wp_app (.tmp 96) (.tmp 98) rfl rfl rfl hr ?_
                have hS := Lib.hid hj.bel
                have HJ := Lib.hid hj
                clear hr hj
                refine hK.out _ _ ?_ (fun hHeld => ?_)
                · exact hS
                clear hK K
                try simp only [Act.put, List.setIfInBounds_toArray, List.set_cons_zero, List.set_cons_succ]
                refine tk14 (v := .agg #[.slice q4 (0 + d2 + d3) c4, .slice q6 (0 + r2 + r3) c6]) (by kernel_rfl) (by kernel_rfl) (by kernel_rfl) (fun _ _ _ h => h) (Or.inl ⟨by kernel_rfl, ?_⟩) hS ?_
                · intro w' hSw
                  go_simp; try with_reducible rfl
                simp only [Act.put, List.setIfInBounds_toArray, List.set_cons_zero, List.set_cons_succ]
                refine wpAnyH_ready (rs := [15]) (by kernel_rfl) (by simp) (st15 (fun K hK => ?_) AllReadyH.nil)
                refine (if_pos (by kernel_rfl)).mpr ?_
                obtain ⟨q7, w7, hr, hj⟩ := HJ.out.mkX
                refine wp_alloc rfl hr ?_
                have hS := Lib.hid hj.bel
                have HJ := Lib.hid hj
                clear hr hj
                refine hK.out _ _ ?_ (fun hHeld => ?_)
                · exact hS
                clear hK K
                try simp only [Act.put, List.setIfInBounds_toArray, List.set_cons_zero, List.set_cons_succ]
                refine wpAnyH_ready (rs := [16]) (by kernel_rfl) (by simp) (st16 (fun K hK => ?_) AllReadyH.nil)
                obtain ⟨⟨c0, c1, f0, f1⟩, -⟩ := HJ.out.ox _ rfl
                go_simp
                have hj := HJ.out.fin
                simp only [Nat.zero_add, List.nil_append] at hj
                have hS := Lib.hid hj.bel
                clear c0 c1 f0 f1
                refine hK.out _ _ ?_ (fun hHeld => ?_)
                · exact hS
                clear hK K
                try simp only [Act.put, List.setIfInBounds_toArray, List.set_cons_zero, List.set_cons_succ]
                refine wpAnyH_done (by kernel_rfl) ?_ _
                exact TAIL _ _ ⟨_, _, _, by constructor, hj, (by simp only [Nat.zero_add]), (by simp only [Nat.zero_add]), (by simp only [List.nil_append]), (by simp only [List.nil_append])⟩
              · refine (if_pos (by kernel_rfl)).mpr ?_
                obtain ⟨q6, w6, hr, hj⟩ := HJ.out.mkX
                refine wp_alloc rfl hr ?_
                have hS := Lib.hid hj.bel
                have HJ := Lib.hid hj
                clear hr hj
                refine hK.out _ _ ?_ (fun hHeld => ?_)
                · exact hS
                clear hK K
                try simp only [Act.put, List.setIfInBounds_toArray, List.set_cons_zero, List.set_cons_succ]
                refine wpAnyH_ready (rs := [13]) (by kernel_rfl) (by simp) (st13 (fun K hK => ?_) AllReadyH.nil)
                refine (if_pos (by kernel_rfl)).mpr ?_
                obtain ⟨q7, c7, w7, hr, hj⟩ := HJ.out.apB qr3 r3 cr3 YB YQ.out.1 YQ.out.2.1 YQ.out.2.2 (by show 0 + r2 + r3 ≤ 1000000; omega)
                refine wp_app (.tmp 96) (.tmp 98) rfl rfl rfl hr ?_
                have hS := Lib.hid hj.bel
                have HJ := Lib.hid hj
                clear hr hj
                refine hK.out _ _ ?_ (fun hHeld => ?_)
                · exact hS
                clear hK K
                try simp only [Act.put, List.setIfInBounds_toArray, List.set_cons_zero, List.set_cons_succ]
                refine tk14 (v := .agg #[.slice q4 (0 + d2 + d3) c4, .slice q7 (0 + r2 + r3) c7]) (by kernel_rfl) (by kernel_rfl) (by kernel_rfl) (fun _ _ _ h => h) (Or.inl ⟨by kernel_rfl, ?_⟩) hS ?_
                · intro w' hSw
                  go_simp; try with_reducible rfl
                simp only [Act.put, List.setIfInBounds_toArray, List.set_cons_zero, List.set_cons_succ]
                refine wpAnyH_ready (rs := [16]) (by kernel_rfl) (by simp) (st16 (fun K hK => ?_) AllReadyH.nil)
                obtain ⟨⟨c0, c1, f0, f1⟩, -⟩ := HJ.out.ox _ rfl
                go_simp
                have hj := HJ.out.fin
                simp only [Nat.zero_add, List.nil_append] at hj
                have hS := Lib.hid hj.bel
                clear c0 c1 f0 f1
                refine hK.out _ _ ?_ (fun hHeld => ?_)
                · exact hS
                clear hK K
                try simp only [Act.put, List.setIfInBounds_toArray, List.set_cons_zero, List.set_cons_succ]
                refine wpAnyH_done (by kernel_rfl) ?_ _
                exact TAIL _ _ ⟨_, _, _, by constructor, hj, (by simp only [Nat.zero_add]), (by simp only [Nat.zero_add]), (by simp only [List.nil_append]), (by simp only [List.nil_append])⟩
            · refine (if_pos (by kernel_rfl)).mpr ?_
              obtain ⟨q5, w5, hr, hj⟩ := HJ.out.mkX
              refine wp_alloc rfl hr ?_
              have hS := Lib.hid hj.bel
              have HJ := Lib.hid hj
              clear hr hj
              refine hK.out _ _ ?_ (fun hHeld => ?_)
              · exact hS
              clear hK K
              try simp only [Act.put, List.setIfInBounds_toArray, List.set_cons_zero, List.set_cons_succ]
              refine wpAnyH_ready (rs := [10]) (by kernel_rfl) (by simp) (st10 (fun K hK => ?_) AllReadyH.nil)
              refine (if_pos (by kernel_rfl)).mpr ?_
              obtain ⟨q6, c6, w6, hr, hj⟩ := HJ.out.apB qr2 r2 cr2 XB XQ.out.1 XQ.out.2.1 XQ.out.2.2 (by show 0 + r2 ≤ 1000000; omega)
              refine wp_app (.tmp 93) (.tmp 95) rfl rfl rfl hr ?_
              have hS := Lib.hid hj.bel
              have HJ := Lib.hid hj
              clear hr hj
              refine hK.out _ _ ?_ (fun hHeld => ?_)
              · exact hS
              clear hK K
              try simp only [Act.put, List.setIfInBounds_toArray, List.set_cons_zero, List.set_cons_succ]
              refine wpAnyH_ready (rs := [13]) (by kernel_rfl) (by simp) (st13 (fun K hK => ?_) AllReadyH.nil)
              refine (if_pos (by kernel_rfl)).mpr ?_
              obtain ⟨q7, c7, w7, hr, hj⟩ := HJ.out.apB qr3 r3 cr3 YB YQ.out.1 YQ.out.2.1 YQ.out.2.2 (by show 0 + r2 + r3 ≤ 1000000; omega)
              refine wp_app (.tmp 96) (.tmp 98) rfl rfl rfl hr ?_
              have hS := Lib.hid hj.bel
              have HJ := Lib.hid hj
              clear hr hj
              refine hK.out _ _ ?_ (fun hHeld => ?_)
              · exact hS
              clear hK K
              try simp only [Act.put, List.setIfInBounds_toArray, List.set_cons_zero, List.set_cons_succ]
              refine tk14 (v := .agg #[.slice q4 (0 + d2 + d3) c4, .slice q7 (0 + r2 + r3) c7]) (by kernel_rfl) (by kernel_rfl) (by kernel_rfl) (fun _ _ _ h => h) (Or.inl ⟨by kernel_rfl, ?_⟩) hS ?_
              · intro w' hSw
                go_simp; try with_reducible rfl
              simp only [Act.put, List.setIfInBounds_toArray, List.set_cons_zero, List.set_cons_succ]
              refine wpAnyH_ready (rs := [16]) (by kernel_rfl) (by simp) (st16 (fun K hK => ?_) AllReadyH.nil)
              obtain ⟨⟨c0, c1, f0, f1⟩, -⟩ := HJ.out.ox _ rfl
              go_simp
              have hj := HJ.out.fin
              simp only [Nat.zero_add, List.nil_append] at hj
              have hS := Lib.hid hj.bel
              clear c0 c1 f0 f1
              refine hK.out _ _ ?_ (fun hHeld => ?_)
              · exact hS
              clear hK K
              try simp only [Act.put, List.setIfInBounds_toArray, List.set_cons_zero, List.set_cons_succ]
              refine wpAnyH_done (by kernel_rfl) ?_ _
              exact TAIL _ _ ⟨_, _, _, by constructor, hj, (by simp only [Nat.zero_add]), (by simp only [Nat.zero_add]), (by simp only [List.nil_append]), (by simp only [List.nil_append])⟩
          · refine (if_pos (by kernel_rfl)).mpr ?_
            obtain ⟨q4, w4, hr, hj⟩ := HJ.out.mkX
            refine wp_alloc rfl hr ?_
            have hS := Lib.hid hj.bel
            have HJ := Lib.hid hj
            clear hr hj
            refine hK.out _ _ ?_ (fun hHeld => ?_)
            · exact hS
            clear hK K
            try simp only [Act.put, List.setIfInBounds_toArray, List.set_cons_zero, List.set_cons_succ]
            refine wpAnyH_ready (rs := [6]) (by kernel_rfl) (by simp) (st6 (fun K hK => ?_) AllReadyH.nil)
            refine (if_pos (by kernel_rfl)).mpr ?_
            obtain ⟨q5, c5, w5, hr, hj⟩ := HJ.out.apA qd3 d3 cd3 YA YP.out.1 YP.out.2.1 YP.out.2.2 (by show 0 + d2 + d3 ≤ 1000000; omega)
            refine wp_app (.tmp 89) (.tmp 91) rfl rfl rfl hr ?_
            have hS := Lib.hid hj.bel
            have HJ := Lib.hid hj
            clear hr hj
            refine hK.out _ _ ?_ (fun hHeld => ?_)
            · exact hS
            clear hK K
            try simp only [Act.put, List.setIfInBounds_toArray, List.set_cons_zero, List.set_cons_succ]
            refine wpAnyH_ready (rs := [10]) (by kernel_rfl) (by simp) (st10 (fun K hK => ?_) AllReadyH.nil)
            refine (if_pos (by kernel_rfl)).mpr ?_
            obtain ⟨q6, c6, w6, hr, hj⟩ := HJ.out.apB qr2 r2 cr2 XB XQ.out.1 XQ.out.2.1 XQ.out.2.2 (by show 0 + r2 ≤ 1000000; omega)
            refine wp_app (.tmp 93) (.tmp 95) rfl rfl rfl hr ?_
            have hS := Lib.hid hj.bel
            have HJ := Lib.hid hj
            clear hr hj
            refine hK.out _ _ ?_ (fun hHeld => ?_)
            · exact hS
            clear hK K
            try simp only [Act.put, List.setIfInBounds_toArray, List.set_cons_zero, List.set_cons_succ]
            refine wpAnyH_ready (rs := [13]) (by kernel_rfl) (by simp) (st13 (fun K hK => ?_) AllReadyH.nil)
            refine (if_pos (by kernel_rfl)).mpr ?_
            obtain ⟨q7, c7, w7, hr, hj⟩ := HJ.out.apB qr3 r3 cr3 YB YQ.out.1 YQ.out.2.1 YQ.out.2.2 (by show 0 + r2 + r3 ≤ 1000000; omega)
            refine wp_app (.tmp 96) (.tmp 98) rfl rfl rfl hr ?_
            have hS := Lib.hid hj.bel
            have HJ := Lib.hid hj
            clear hr hj
            refine hK.out _ _ ?_ (fun hHeld => ?_)
            · exact hS
            clear hK K
            try simp only [Act.put, List.setIfInBounds_toArray, List.set_cons_zero, List.set_cons_succ]
            refine tk14 (v := .agg #[.slice q5 (0 + d2 + d3) c5, .slice q7 (0 + r2 + r3) c7]) (by kernel_rfl) (by kernel_rfl) (by kernel_rfl) (fun _ _ _ h => h) (Or.inl ⟨by kernel_rfl, ?_⟩) hS ?_
            · intro w' hSw
              go_simp; try with_reducible rfl
            simp only [Act.put, List.setIfInBounds_toArray, List.set_cons_zero, List.set_cons_succ]
            refine wpAnyH_ready (rs := [16]) (by kernel_rfl) (by simp) (st16 (fun K hK => ?_) AllReadyH.nil)
            obtain ⟨⟨c0, c1, f0, f1⟩, -⟩ := HJ.out.ox _ rfl
            go_simp
            have hj := HJ.out.fin
            simp only [Nat.zero_add, List.nil_append] at hj
            have hS := Lib.hid hj.bel
            clear c0 c1 f0 f1
            refine hK.out _ _ ?_ (fun hHeld => ?_)
            · exact hS
            clear hK K
            try simp only [Act.put, List.setIfInBounds_toArray, List.set_cons_zero, List.set_cons_succ]
            refine wpAnyH_done (by kernel_rfl) ?_ _
            exact TAIL _ _ ⟨_, _, _, by constructor, hj, (by simp only [Nat.zero_add]), (by simp only [Nat.zero_add]), (by simp only [List.nil_append]), (by simp only [List.nil_append])⟩
        · refine (if_pos (by kernel_rfl)).mpr ?_
          obtain ⟨q3, w3, hr, hj⟩ := HJ.out.mkX
          refine wp_alloc rfl hr ?_
          have hS := Lib.hid hj.bel
          have HJ := Lib.hid hj
          clear hr hj
          refine hK.out _ _ ?_ (fun hHeld => ?_)
          · exact hS
          clear hK K
          try simp only [Act.put, List.setIfInBounds_toArray, List.set_cons_zero, List.set_cons_succ]
          refine wpAnyH_ready (rs := [3]) (by kernel_rfl) (by simp) (st3 (fun K hK => ?_) AllReadyH.nil)
          refine (if_pos (by kernel_rfl)).mpr ?_
          obtain ⟨q4, c4, w4, hr, hj⟩ := HJ.out.apA qd2 d2 cd2 XA XP.out.1 XP.out.2.1 XP.out.2.2 (by show 0 + d2 ≤ 1000000; omega)
          refine wp_app (.tmp 86) (.tmp 88) rfl rfl rfl hr ?_
          have hS := Lib.hid hj.bel
          have HJ := Lib.hid hj
          clear hr hj
          refine hK.out _ _ ?_ (fun hHeld => ?_)
          · exact hS
          clear hK K
          try simp only [Act.put, List.setIfInBounds_toArray, List.set_cons_zero, List.set_cons_succ]
          refine wpAnyH_ready (rs := [6]) (by kernel_rfl) (by simp) (st6 (fun K hK => ?_) AllReadyH.nil)
          refine (if_pos (by kernel_rfl)).mpr ?_
          obtain ⟨q5, c5, w5, hr, hj⟩ := HJ.out.apA qd3 d3 cd3 YA YP.out.1 YP.out.2.1 YP.out.2.2 (by show 0 + d2 + d3 ≤ 1000000; omega)
          refine wp_app (.tmp 89) (.tmp 91) rfl rfl rfl hr ?_
          have hS := Lib.hid hj.bel
          have HJ := Lib.hid hj
          clear hr hj
          refine hK.out _ _ ?_ (fun hHeld => ?_)
          · exact hS
          clear hK K
          try simp only [Act.put, List.setIfInBounds_toArray, List.set_cons_zero, List.set_cons_succ]
          refine wpAnyH_ready (rs := [10]) (by kernel_rfl) (by simp) (st10 (fun K hK => ?_) AllReadyH.nil)
          refine (if_pos (by kernel_rfl)).mpr ?_
          obtain ⟨q6, c6, w6, hr, hj⟩ := HJ.out.apB qr2 r2 cr2 XB XQ.out.1 XQ.out.2.1 XQ.out.2.2 (by show 0 + r2 ≤ 1000000; omega)
          refine wp_app (.tmp 93) (.tmp 95) rfl rfl rfl hr ?_
          have hS := Lib.hid hj.bel
          have HJ := Lib.hid hj
          clear hr hj
          refine hK.out _ _ ?_ (fun hHeld => ?_)
          · exact hS
          clear hK K
          try simp only [Act.put, List.setIfInBounds_toArray, List.set_cons_zero, List.set_cons_succ]
          refine wpAnyH_ready (rs := [13]) (by kernel_rfl) (by simp) (st13 (fun K hK => ?_) AllReadyH.nil)
          refine (if_pos (by kernel_rfl)).mpr ?_
          obtain ⟨q7, c7, w7, hr, hj⟩ := HJ.out.apB qr3 r3 cr3 YB YQ.out.1 YQ.out.2.1 YQ.out.2.2 (by show 0 + r2 + r3 ≤ 1000000; omega)
          refine wp_app (.tmp 96) (.tmp 98) rfl rfl rfl hr ?_
          have hS := Lib.hid hj.bel
          have HJ := Lib.hid hj
          clear hr hj
          refine hK.out _ _ ?_ (fun hHeld => ?_)
          · exact hS
          clear hK K
          try simp only [Act.put, List.setIfInBounds_toArray, List.set_cons_zero, List.set_cons_succ]
          refine tk14 (v := .agg #[.slice q5 (0 + d2 + d3) c5, .slice q7 (0 + r2 + r3) c7]) (by kernel_rfl) (by kernel_rfl) (by kernel_rfl) (fun _ _ _ h => h) (Or.inl ⟨by kernel_rfl, ?_⟩) hS ?_
          · intro w' hSw
            go_simp; try with_reducible rfl
          simp only [Act.put, List.setIfInBounds_toArray, List.set_cons_zero, List.set_cons_succ]
          refine wpAnyH_ready (rs := [16]) (by kernel_rfl) (by simp) (st16 (fun K hK => ?_) AllReadyH.nil)
          obtain ⟨⟨c0, c1, f0, f1⟩, -⟩ := HJ.out.ox _ rfl
          go_simp
          have hj := HJ.out.fin
          simp only [Nat.zero_add, List.nil_append] at hj
          have hS := Lib.hid hj.bel
          clear c0 c1 f0 f1
          refine hK.out _ _ ?_ (fun hHeld => ?_)
          · exact hS
          clear hK K
          try simp only [Act.put, List.setIfInBounds_toArray, List.set_cons_zero, List.set_cons_succ]
          refine wpAnyH_done (by kernel_rfl) ?_ _
          exact TAIL _ _ ⟨_, _, _, by constructor, hj, (by simp only [Nat.zero_add]), (by simp only [Nat.zero_add]), (by simp only [List.nil_append]), (by simp only [List.nil_append])⟩
      · refine (if_pos (by kernel_rfl)).mpr ?_
        obtain ⟨q2, w2, hr, hj⟩ := HJ.out.mkX
        refine wp_alloc rfl hr ?_
        have hS := Lib.hid hj.bel
        have HJ := Lib.hid hj
        clear hr hj
        refine hK.out _ _ ?_ (fun hHeld => ?_)
        · exact hS
        clear hK K
        try simp only [Act.put, List.setIfInBounds_toArray, List.set_cons_zero, List.set_cons_succ]
        refine wpAnyH_ready (rs := [0]) (by kernel_rfl) (by simp) (st0 (fun K hK => ?_) AllReadyH.nil)
        refine (if_pos (by kernel_rfl)).mpr ?_
        obtain ⟨q3, c3, w3, hr, hj⟩ := HJ.out.mkA
        refine wp_slice0 rfl hr ?_
        have hS := Lib.hid hj.bel
        have HJ := Lib.hid hj
        clear hr hj
        refine hK.out _ _ ?_ (fun hHeld => ?_)
        · exact hS
        clear hK K
        try simp only [Act.put, List.setIfInBounds_toArray, List.set_cons_zero, List.set_cons_succ]
        refine wpAnyH_ready (rs := [3]) (by kernel_rfl) (by simp) (st3 (fun K hK => ?_) AllReadyH.nil)
        refine (if_pos (by kernel_rfl)).mpr ?_
        obtain ⟨q4, c4, w4, hr, hj⟩ := HJ.out.apA qd2 d2 cd2 XA XP.out.1 XP.out.2.1 XP.out.2.2 (by show 0 + d2 ≤ 1000000; omega)
        refine wp_app (.tmp 86) (.tmp 88) rfl rfl rfl hr ?_
        have hS := Lib.hid hj.bel
        have HJ := Lib.hid hj
        clear hr hj
        refine hK.out _ _ ?_ (fun hHeld => ?_)
        · exact hS
        clear hK K
        try simp only [Act.put, List.setIfInBounds_toArray, List.set_cons_zero, List.set_cons_succ]
        refine wpAnyH_ready (rs := [6]) (by kernel_rfl) (by simp) (st6 (fun K hK => ?_) AllReadyH.nil)
        refine (if_pos (by kernel_rfl)).mpr ?_
        obtain ⟨q5, c5, w5, hr, hj⟩ := HJ.out.apA qd3 d3 cd3 YA YP.out.1 YP.out.2.1 YP.out.2.2 (by show 0 + d2 + d3 ≤ 1000000; omega)
        refine wp_app (.tmp 89) (.tmp 91) rfl rfl rfl hr ?_
        have hS := Lib.hid hj.bel
        have HJ := Lib.hid hj
        clear hr hj
        refine hK.out _ _ ?_ (fun hHeld => ?_)
        · exact hS
        clear hK K
        try simp only [Act.put, List.setIfInBounds_toArray, List.set_cons_zero, List.set_cons_succ]
        refine wpAnyH_ready (rs := [10]) (by kernel_rfl) (by simp) (st10 (fun K hK => ?_) AllReadyH.nil)
        refine (if_pos (by kernel_rfl)).mpr ?_
        obtain ⟨q6, c6, w6, hr, hj⟩ := HJ.out.apB qr2 r2 cr2 XB XQ.out.1 XQ.out.2.1 XQ.out.2.2 (by show 0 + r2 ≤ 1000000; omega)
        refine wp_app (.tmp 93) (.tmp 95) rfl rfl rfl hr ?_
        have hS := Lib.hid hj.bel
        have HJ := Lib.hid hj
        clear hr hj
        refine hK.out _ _ ?_ (fun hHeld => ?_)
        · exact hS
        clear hK K
        try simp only [Act.put, List.setIfInBounds_toArray, List.set_cons_zero, List.set_cons_succ]
        refine wpAnyH_ready (rs := [13]) (by kernel_rfl) (by simp) (st13 (fun K hK => ?_) AllReadyH.nil)
        refine (if_pos (by kernel_rfl)).mpr ?_
        obtain ⟨q7, c7, w7, hr, hj⟩ := HJ.out.apB qr3 r3 cr3 YB YQ.out.1 YQ.out.2.1 YQ.out.2.2 (by show 0 + r2 + r3 ≤ 1000000; omega)
        refine wp_app (.tmp 96) (.tmp 98) rfl rfl rfl hr ?_
        have hS := Lib.hid hj.bel
        have HJ := Lib.hid hj
        clear hr hj
        refine hK.out _ _ ?_ (fun hHeld => ?_)
        · exact hS
        clear hK K
        try simp only [Act.put, List.setIfInBounds_toArray, List.set_cons_zero, List.set_cons_succ]
        refine tk14 (v := .agg #[.slice q5 (0 + d2 + d3) c5, .slice q7 (0 + r2 + r3) c7]) (by kernel_rfl) (by kernel_rfl) (by kernel_rfl) (fun _ _ _ h => h) (Or.inl ⟨by kernel_rfl, ?_⟩) hS ?_
        · intro w' hSw
          go_simp; try with_reducible rfl
        simp only [Act.put, List.setIfInBounds_toArray, List.set_cons_zero, List.set_cons_succ]
        refine wpAnyH_ready (rs := [16]) (by kernel_rfl) (by simp) (st16 (fun K hK => ?_) AllReadyH.nil)
        obtain ⟨⟨c0, c1, f0, f1⟩, -⟩ := HJ.out.ox _ rfl
        go_simp
        have hj := HJ.out.fin
        simp only [Nat.zero_add, List.nil_append] at hj
        have hS := Lib.hid hj.bel
        clear c0 c1 f0 f1
        refine hK.out _ _ ?_ (fun hHeld => ?_)
        · exact hS
        clear hK K
        try simp only [Act.put, List.setIfInBounds_toArray, List.set_cons_zero, List.set_cons_succ]
        refine wpAnyH_done (by kernel_rfl) ?_ _
        exact TAIL _ _ ⟨_, _, _, by constructor, hj, (by simp only [Nat.zero_add]), (by simp only [Nat.zero_add]), (by simp only [List.nil_append]), (by simp only [List.nil_append])⟩
    · refine (if_pos (by kernel_rfl)).mpr ?_
      obtain ⟨q1, w1, hr, hj⟩ := HJ.out.mkX
      refine wp_alloc rfl hr ?_
      have hS := Lib.hid hj.bel
      have HJ := Lib.hid hj
      clear hr hj
      refine hK.out _ _ ?_ (fun hHeld => ?_)
      · exact hS
      clear hK K
      try simp only [Act.put, List.setIfInBounds_toArray, List.set_cons_zero, List.set_cons_succ]
      refine wpAnyH_ready (rs := [0, 7]) (by kernel_rfl) (by simp) (st0 (fun K hK => ?_) (st7 (fun K hK => ?_) AllReadyH.nil))
      · refine (if_pos (by kernel_rfl)).mpr ?_
        obtain ⟨q2, c2, w2, hr, hj⟩ := HJ.out.mkA
        refine wp_slice0 rfl hr ?_
        have hS := Lib.hid hj.bel
        have HJ := Lib.hid hj
        clear hr hj
        refine hK.out _ _ ?_ (fun hHeld => ?_)
        · exact hS
        clear hK K
        try simp only [Act.put, List.setIfInBounds_toArray, List.set_cons_zero, List.set_cons_succ]
        refine wpAnyH_ready (rs := [3, 7]) (by kernel_rfl) (by simp) (st3 (fun K hK => ?_) (st7 (fun K hK => ?_) AllReadyH.nil))
        · refine (if_pos (by kernel_rfl)).mpr ?_
          obtain ⟨q3, c3, w3, hr, hj⟩ := HJ.out.apA qd2 d2 cd2 XA XP.out.1 XP.out.2.1 XP.out.2.2 (by show 0 + d2 ≤ 1000000; omega)
          refine wp_app (.tmp 86) (.tmp 88) rfl rfl rfl hr ?_
          have hS := Lib.hid hj.bel
          have HJ := Lib.hid hj
          clear hr hj
          refine hK.out _ _ ?_ (fun hHeld => ?_)
          · exact hS
          clear hK K
          try simp only [Act.put, List.setIfInBounds_toArray, List.set_cons_zero, List.set_cons_succ]
          refine wpAnyH_ready (rs := [6, 7]) (by kernel_rfl) (by simp) (st6 (fun K hK => ?_) (st7 (fun K hK => ?_) AllReadyH.nil))
          · refine (if_pos (by kernel_rfl)).mpr ?_
            obtain ⟨q4, c4, w4, hr, hj⟩ := HJ.out.apA qd3 d3 cd3 YA YP.out.1 YP.out.2.1 YP.out.2.2 (by show 0 + d2 + d3 ≤ 1000000; omega)
            refine wp_app (.tmp 89) (.tmp 91) rfl rfl rfl hr ?_
            have hS := Lib.hid hj.bel
            have HJ := Lib.hid hj
            clear hr hj
            refine hK.out _ _ ?_ (fun hHeld => ?_)
            · exact hS
            clear hK K
            try simp only [Act.put, List.setIfInBounds_toArray, List.set_cons_zero, List.set_cons_succ]
            refine wpAnyH_ready (rs := [7]) (by kernel_rfl) (by simp) (st7 (fun K hK => ?_) AllReadyH.nil)
            refine (if_pos (by kernel_rfl)).mpr ?_
            obtain ⟨q5, c5, w5, hr, hj⟩ := HJ.out.mkB
            refine wp_slice0 rfl hr ?_
            have hS := Lib.hid hj.bel
            have HJ := Lib.hid hj
            clear hr hj
            refine hK.out _ _ ?_ (fun hHeld => ?_)
            · exact hS
            clear hK K
            try simp only [Act.put, List.setIfInBounds_toArray, List.set_cons_zero, List.set_cons_succ]
            refine wpAnyH_ready (rs := [10]) (by kernel_rfl) (by simp) (st10 (fun K hK => ?_) AllReadyH.nil)
            refine (if_pos (by kernel_rfl)).mpr ?_
            obtain ⟨q6, c6, w6, hr, hj⟩ := HJ.out.apB qr2 r2 cr2 XB XQ.out.1 XQ.out.2.1 XQ.out.2.2 (by show 0 + r2 ≤ 1000000; omega)
            refine wp_app (.tmp 93) (.tmp 95) rfl rfl rfl hr ?_
            have hS := Lib.hid hj.bel
            have HJ := Lib.hid hj
            clear hr hj
            refine hK.out _ _ ?_ (fun hHeld => ?_)
            · exact hS
            clear hK K
            try simp only [Act.put, List.setIfInBounds_toArray, List.set_cons_zero, List.set_cons_succ]
            refine wpAnyH_ready (rs := [13]) (by kernel_rfl) (by simp) (st13 (fun K hK => ?_) AllReadyH.nil)
            refine (if_pos (by kernel_rfl)).mpr ?_
            obtain ⟨q7, c7, w7, hr, hj⟩ := HJ.out.apB qr3 r3 cr3 YB YQ.out.1 YQ.out.2.1 YQ.out.2.2 (by show 0 + r2 + r3 ≤ 1000000; omega)
            refine wp_app (.tmp 96) (.tmp 98) rfl rfl rfl hr ?_
            have hS := Lib.hid hj.bel
            have HJ := Lib.hid hj
            clear hr hj
            refine hK.out _ _ ?_ (fun hHeld => ?_)
            · exact hS
            clear hK K
            try simp only [Act.put, List.setIfInBounds_toArray, List.set_cons_zero, List.set_cons_succ]
            refine tk14 (v := .agg #[.slice q4 (0 + d2 + d3) c4, .slice q7 (0 + r2 + r3) c7]) (by kernel_rfl) (by kernel_rfl) (by kernel_rfl) (fun _ _ _ h => h) (Or.inl ⟨by kernel_rfl, ?_⟩) hS ?_
            · intro w' hSw
              go_simp; try with_reducible rfl
            simp only [Act.put, List.setIfInBounds_toArray, List.set_cons_zero, List.set_cons_succ]
            refine wpAnyH_ready (rs := [16]) (by kernel_rfl) (by simp) (st16 (fun K hK => ?_) AllReadyH.nil)
            obtain ⟨⟨c0, c1, f0, f1⟩, -⟩ := HJ.out.ox _ rfl
            go_simp
            have hj := HJ.out.fin
            simp only [Nat.zero_add, List.nil_append] at hj
            have hS := Lib.hid hj.bel
            clear c0 c1 f0 f1
            refine hK.out _ _ ?_ (fun hHeld => ?_)
            · exact hS
            clear hK K
            try simp only [Act.put, List.setIfInBounds_toArray, List.set_cons_zero, List.set_cons_succ]
            refine wpAnyH_done (by kernel_rfl) ?_ _
            exact TAIL _ _ ⟨_, _, _, by constructor, hj, (by simp only [Nat.zero_add]), (by simp only [Nat.zero_add]), (by simp only [List.nil_append]), (by simp only [List.nil_append])⟩
          · refine (if_pos (by kernel_rfl)).mpr ?_
            obtain ⟨q4, c4, w4, hr, hj⟩ := HJ.out.mkB
            refine wp_slice0 rfl hr ?_
            have hS := Lib.hid hj.bel
            have HJ := Lib.hid hj
            clear hr hj
            refine hK.out _ _ ?_ (fun hHeld => ?_)
            · exact hS
            clear hK K
            try simp only [Act.put, List.setIfInBounds_toArray, List.set_cons_zero, List.set_cons_succ]
            refine wpAnyH_ready (rs := [6]) (by kernel_rfl) (by simp) (st6 (fun K hK => ?_) AllReadyH.nil)
            refine (if_pos (by kernel_rfl)).mpr ?_
            obtain ⟨q5, c5, w5, hr, hj⟩ := HJ.out.apA qd3 d3 cd3 YA YP.out.1 YP.out.2.1 YP.out.2.2 (by show 0 + d2 + d3 ≤ 1000000; omega)
            refine wp_app (.tmp 89) (.tmp 91) rfl rfl rfl hr ?_
            have hS := Lib.hid hj.bel
            have HJ := Lib.hid hj
            clear hr hj
            refine hK.out _ _ ?_ (fun hHeld => ?_)
            · exact hS
            clear hK K
            try simp only [Act.put, List.setIfInBounds_toArray, List.set_cons_zero, List.set_cons_succ]
            refine wpAnyH_ready (rs := [10]) (by kernel_rfl) (by simp) (st10 (fun K hK => ?_) AllReadyH.nil)
            refine (if_pos (by kernel_rfl)).mpr ?_
            obtain ⟨q6, c6, w6, hr, hj⟩ := HJ.out.apB qr2 r2 cr2 XB XQ.out.1 XQ.out.2.1 XQ.out.2.2 (by show 0 + r2 ≤ 1000000; omega)
            refine wp_app (.tmp 93) (.tmp 95) rfl rfl rfl hr ?_
            have hS := Lib.hid hj.bel
            have HJ := Lib.hid hj
            clear hr hj
            refine hK.out _ _ ?_ (fun hHeld => ?_)
            · exact hS
            clear hK K
            try simp only [Act.put, List.setIfInBounds_toArray, List.set_cons_zero, List.set_cons_succ]
            refine wpAnyH_ready (rs := [13]) (by kernel_rfl) (by simp) (st13 (fun K hK => ?_) AllReadyH.nil)
            refine (if_pos (by kernel_rfl)).mpr ?_
            obtain ⟨q7, c7, w7, hr, hj⟩ := HJ.out.apB qr3 r3 cr3 YB YQ.out.1 YQ.out.2.1 YQ.out.2.2 (by show 0 + r2 + r3 ≤ 1000000; omega)
            refine wp_app (.tmp 96) (.tmp 98) rfl rfl rfl hr ?_
            have hS := Lib.hid hj.bel
            have HJ := Lib.hid hj
            clear hr hj
            refine hK.out _ _ ?_ (fun hHeld => ?_)
            · exact hS
            clear hK K
            try simp only [Act.put, List.setIfInBounds_toArray, List.set_cons_zero, List.set_cons_succ]
            refine tk14 (v := .agg #[.slice q5 (0 + d2 + d3) c5, .slice q7 (0 + r2 + r3) c7]) (by kernel_rfl) (by kernel_rfl) (by kernel_rfl) (fun _ _ _ h => h) (Or.inl ⟨by kernel_rfl, ?_⟩) hS ?_
            · intro w' hSw
              go_simp; try with_reducible rfl
            simp only [Act.put, List.setIfInBounds_toArray, List.set_cons_zero, List.set_cons_succ]
            refine wpAnyH_ready (rs := [16]) (by kernel_rfl) (by simp) (st16 (fun K hK => ?_) AllReadyH.nil)
            obtain ⟨⟨c0, c1, f0, f1⟩, -⟩ := HJ.out.ox _ rfl
            go_simp
            have hj := HJ.out.fin
            simp only [Nat.zero_add, List.nil_append] at hj
            have hS := Lib.hid hj.bel
            clear c0 c1 f0 f1
            refine hK.out _ _ ?_ (fun hHeld => ?_)
            · exact hS
            clear hK K
            try simp only [Act.put, List.setIfInBounds_toArray, List.set_cons_zero, List.set_cons_succ]
            refine wpAnyH_done (by kernel_rfl) ?_ _
            exact TAIL _ _ ⟨_, _, _, by constructor, hj, (by simp only [Nat.zero_add]), (by simp only [Nat.zero_add]), (by simp only [List.nil_append]), (by simp only [List.nil_append])⟩
        · refine (if_pos (by kernel_rfl)).mpr ?_
          obtain ⟨q3, c3, w3, hr, hj⟩ := HJ.out.mkB
          refine wp_slice0 rfl hr ?_
          have hS := Lib.hid hj.bel
          have HJ := Lib.hid hj
          clear hr hj
          refine hK.out _ _ ?_ (fun hHeld => ?_)
          · exact hS
          clear hK K
          try simp only [Act.put, List.setIfInBounds_toArray, List.set_cons_zero, List.set_cons_succ]
          refine wpAnyH_ready (rs := [3]) (by kernel_rfl) (by simp) (st3 (fun K hK => ?_) AllReadyH.nil)
          refine (if_pos (by kernel_rfl)).mpr ?_
          obtain ⟨q4, c4, w4, hr, hj⟩ := HJ.out.apA qd2 d2 cd2 XA XP.out.1 XP.out.2.1 XP.out.2.2 (by show 0 + d2 ≤ 1000000; omega)
          refine wp_app (.tmp 86) (.tmp 88) rfl rfl rfl hr ?_
          have hS := Lib.hid hj.bel
          have HJ := Lib.hid hj
          clear hr hj
          refine hK.out _ _ ?_ (fun hHeld => ?_)
          · exact hS
          clear hK K
          try simp only [Act.put, List.setIfInBounds_toArray, List.set_cons_zero, List.set_cons_succ]
          refine wpAnyH_ready (rs := [6]) (by kernel_rfl) (by simp) (st6 (fun K hK => ?_) AllReadyH.nil)
          refine (if_pos (by kernel_rfl)).mpr ?_
          obtain ⟨q5, c5, w5, hr, hj⟩ := HJ.out.apA qd3 d3 cd3 YA YP.out.1 YP.out.2.1 YP.out.2.2 (by show 0 + d2 + d3 ≤ 1000000; omega)
          refine wp_app (.tmp 89) (.tmp 91) rfl rfl rfl hr ?_
          have hS := Lib.hid hj.bel
          have HJ := Lib.hid hj
          clear hr hj
          refine hK.out _ _ ?_ (fun hHeld => ?_)
          · exact hS
          clear hK K
          try simp only [Act.put, List.setIfInBounds_toArray, List.set_cons_zero, List.set_cons_succ]
          refine wpAnyH_ready (rs := [10]) (by kernel_rfl) (by simp) (st10 (fun K hK => ?_) AllReadyH.nil)
          refine (if_pos (by kernel_rfl)).mpr ?_
          obtain ⟨q6, c6, w6, hr, hj⟩ := HJ.out.apB qr2 r2 cr2 XB XQ.out.1 XQ.out.2.1 XQ.out.2.2 (by show 0 + r2 ≤ 1000000; omega)
          refine wp_app (.tmp 93) (.tmp 95) rfl rfl rfl hr ?_
          have hS := Lib.hid hj.bel
          have HJ := Lib.hid hj
          clear hr hj
          refine hK.out _ _ ?_ (fun hHeld => ?_)
          · exact hS
          clear hK K
          try simp only [Act.put, List.setIfInBounds_toArray, List.set_cons_zero, List.set_cons_succ]
          refine wpAnyH_ready (rs := [13]) (by kernel_rfl) (by simp) (st13 (fun K hK => ?_) AllReadyH.nil)
          refine (if_pos (by kernel_rfl)).mpr ?_
          obtain ⟨q7, c7, w7, hr, hj⟩ := HJ.out.apB qr3 r3 cr3 YB YQ.out.1 YQ.out.2.1 YQ.out.2.2 (by show 0 + r2 + r3 ≤ 1000000; omega)
          refine wp_app (.tmp 96) (.tmp 98) rfl rfl rfl hr ?_
          have hS := Lib.hid hj.bel
          have HJ := Lib.hid hj
          clear hr hj
          refine hK.out _ _ ?_ (fun hHeld => ?_)
          · exact hS
          clear hK K
          try simp only [Act.put, List.setIfInBounds_toArray, List.set_cons_zero, List.set_cons_succ]
          refine tk14 (v := .agg #[.slice q5 (0 + d2 + d3) c5, .slice q7 (0 + r2 + r3) c7]) (by kernel_rfl) (by kernel_rfl) (by kernel_rfl) (fun _ _ _ h => h) (Or.inl ⟨by kernel_rfl, ?_⟩) hS ?_
          · intro w' hSw
            go_simp; try with_reducible rfl
          simp only [Act.put, List.setIfInBounds_toArray, List.set_cons_zero, List.set_cons_succ]
          refine wpAnyH_ready (rs := [16]) (by kernel_rfl) (by simp) (st16 (fun K hK => ?_) AllReadyH.nil)
          obtain ⟨⟨c0, c1, f0, f1⟩, -⟩ := HJ.out.ox _ rfl
          go_simp
          have hj := HJ.out.fin
          simp only [Nat.zero_add, List.nil_append] at hj
          have hS := Lib.hid hj.bel
          clear c0 c1 f0 f1
          refine hK.out _ _ ?_ (fun hHeld => ?_)
          · exact hS
          clear hK K
          try simp only [Act.put, List.setIfInBounds_toArray, List.set_cons_zero, List.set_cons_succ]
          refine wpAnyH_done (by kernel_rfl) ?_ _
          exact TAIL _ _ ⟨_, _, _, by constructor, hj, (by simp only [Nat.zero_add]), (by simp only [Nat.zero_add]), (by simp only [List.nil_append]), (by simp only [List.nil_append])⟩
      · refine (if_pos (by kernel_rfl)).mpr ?_
        obtain ⟨q2, c2, w2, hr, hj⟩ := HJ.out.mkB
        refine wp_slice0 rfl hr ?_
        have hS := Lib.hid hj.bel
        have HJ := Lib.hid hj
        clear hr hj
        refine hK.out _ _ ?_ (fun hHeld => ?_)
        · exact hS
        clear hK K
        try simp only [Act.put, List.setIfInBounds_toArray, List.set_cons_zero, List.set_cons_succ]
        refine wpAnyH_ready (rs := [0]) (by kernel_rfl) (by simp) (st0 (fun K hK => ?_) AllReadyH.nil)
        refine (if_pos (by kernel_rfl)).mpr ?_
        obtain ⟨q3, c3, w3, hr, hj⟩ := HJ.out.mkA
        refine wp_slice0 rfl hr ?_
        have hS := Lib.hid hj.bel
        have HJ := Lib.hid hj
        clear hr hj
        refine hK.out _ _ ?_ (fun hHeld => ?_)
        · exact hS
        clear hK K
        try simp only [Act.put, List.setIfInBounds_toArray, List.set_cons_zero, List.set_cons_succ]
        refine wpAnyH_ready (rs := [3]) (by kernel_rfl) (by simp) (st3 (fun K hK => ?_) AllReadyH.nil)
        refine (if_pos (by kernel_rfl)).mpr ?_
        obtain ⟨q4, c4, w4, hr, hj⟩ := HJ.out.apA qd2 d2 cd2 XA XP.out.1 XP.out.2.1 XP.out.2.2 (by show 0 + d2 ≤ 1000000; omega)
        refine wp_app (.tmp 86) (.tmp 88) rfl rfl rfl hr ?_
        have hS := Lib.hid hj.bel
        have HJ := Lib.hid hj
        clear hr hj
        refine hK.out _ _ ?_ (fun hHeld => ?_)
        · exact hS
        clear hK K
        try simp only [Act.put, List.setIfInBounds_toArray, List.set_cons_zero, List.set_cons_succ]
        refine wpAnyH_ready (rs := [6]) (by kernel_rfl) (by simp) (st6 (fun K hK => ?_) AllReadyH.nil)
        refine (if_pos (by kernel_rfl)).mpr ?_
        obtain ⟨q5, c5, w5, hr, hj⟩ := HJ.out.apA qd3 d3 cd3 YA YP.out.1 YP.out.2.1 YP.out.2.2 (by show 0 + d2 + d3 ≤ 1000000; omega)
        refine wp_app (.tmp 89) (.tmp 91) rfl rfl rfl hr ?_
        have hS := Lib.hid hj.bel
        have HJ := Lib.hid hj
        clear hr hj
        refine hK.out _ _ ?_ (fun hHeld => ?_)
        · exact hS
        clear hK K
        try simp only [Act.put, List.setIfInBounds_toArray, List.set_cons_zero, List.set_cons_succ]
        refine wpAnyH_ready (rs := [10]) (by kernel_rfl) (by simp) (st10 (fun K hK => ?_) AllReadyH.nil)
        refine (if_pos (by kernel_rfl)).mpr ?_
        obtain ⟨q6, c6, w6, hr, hj⟩ := HJ.out.apB qr2 r2 cr2 XB XQ.out.1 XQ.out.2.1 XQ.out.2.2 (by show 0 + r2 ≤ 1000000; omega)
        refine wp_app (.tmp 93) (.tmp 95) rfl rfl rfl hr ?_
        have hS := Lib.hid hj.bel
        have HJ := Lib.hid hj
        clear hr hj
        refine hK.out _ _ ?_ (fun hHeld => ?_)
        · exact hS
        clear hK K
        try simp only [Act.put, List.setIfInBounds_toArray, List.set_cons_zero, List.set_cons_succ]
        refine wpAnyH_ready (rs := [13]) (by kernel_rfl) (by simp) (st13 (fun K hK => ?_) AllReadyH.nil)
        refine (if_pos (by kernel_rfl)).mpr ?_
        obtain ⟨q7, c7, w7, hr, hj⟩ := HJ.out.apB qr3 r3 cr3 YB YQ.out.1 YQ.out.2.1 YQ.out.2.2 (by show 0 + r2 + r3 ≤ 1000000; omega)
        refine wp_app (.tmp 96) (.tmp 98) rfl rfl rfl hr ?_
        have hS := Lib.hid hj.bel
        have HJ := Lib.hid hj
        clear hr hj
        refine hK.out _ _ ?_ (fun hHeld => ?_)
        · exact hS
        clear hK K
        try simp only [Act.put, List.setIfInBounds_toArray, List.set_cons_zero, List.set_cons_succ]
        refine tk14 (v := .agg #[.slice q5 (0 + d2 + d3) c5, .slice q7 (0 + r2 + r3) c7]) (by kernel_rfl) (by kernel_rfl) (by kernel_rfl) (fun _ _ _ h => h) (Or.inl ⟨by kernel_rfl, ?_⟩) hS ?_
        · intro w' hSw
          go_simp; try with_reducible rfl
        simp only [Act.put, List.setIfInBounds_toArray, List.set_cons_zero, List.set_cons_succ]
        refine wpAnyH_ready (rs := [16]) (by kernel_rfl) (by simp) (st16 (fun K hK => ?_) AllReadyH.nil)
        obtain ⟨⟨c0, c1, f0, f1⟩, -⟩ := HJ.out.ox _ rfl
        go_simp
        have hj := HJ.out.fin
        simp only [Nat.zero_add, List.nil_append] at hj
        have hS := Lib.hid hj.bel
        clear c0 c1 f0 f1
        refine hK.out _ _ ?_ (fun hHeld => ?_)
        · exact hS
        clear hK K
        try simp only [Act.put, List.setIfInBounds_toArray, List.set_cons_zero, List.set_cons_succ]
        refine wpAnyH_done (by kernel_rfl) ?_ _
        exact TAIL _ _ ⟨_, _, _, by constructor, hj, (by simp only [Nat.zero_add]), (by simp only [Nat.zero_add]), (by simp only [List.nil_append]), (by simp only [List.nil_append])⟩
set_option maxRecDepth 100000 in
set_option maxHeartbeats 2000000 in
theorem joins_law (s0 s1 : ByteArray) (w : World) : Calls Tryz.prog 5 #[.string s0, .string s1] w fun e w' => e = .returned (.bool true) ∧ RowKit.Below w.heap.size w w' := by
  by_cases h0 : 3000 < s0.size
  · have l0 : decide ((3000 : Int) < (s0.size : Int)) = true := decide_eq_true (by omega)
    go_enter Tryz.func5, Tryz.ntmps5
    go_wp2_with fail
    refine (head_any _).mono ?_
    rintro _ w1 ⟨rfl, hb⟩
    have B1 := Lib.hid hb
    clear hb
    go_wp2_with fail
    go_ret
    exact ⟨rfl, B1.out⟩
  have l0 : decide ((3000 : Int) < (s0.size : Int)) = false := decide_eq_false (by omega)
  by_cases h1 : 3000 < s1.size
  · have l1 : decide ((3000 : Int) < (s1.size : Int)) = true := decide_eq_true (by omega)
    go_enter Tryz.func5, Tryz.ntmps5
    go_wp2_with fail
    refine (head_any _).mono ?_
    rintro _ w1 ⟨rfl, hb⟩
    have B1 := Lib.hid hb
    clear hb
    go_wp2_with fail
    go_ret
    exact ⟨rfl, B1.out⟩
  exact joins_main s0 s1 w (by omega) (by omega)
end Go.Proofs.YtedbpjcglnkjmaaGreatDoor
