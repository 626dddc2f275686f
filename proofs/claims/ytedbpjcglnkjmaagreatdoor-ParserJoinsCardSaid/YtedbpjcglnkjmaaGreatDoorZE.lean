/-
  The parser's operators: the map of them, which one a token is, the node over two operands.
  Contracts of the parser: operator.
  Contract of node: a node over two others.
  Contracts of the parser: cents, number.
  Mathematics: what a factor is, by what the next token is.
-/
import Derived.Test.YtedbpjcglnkjmaaGreatDoorZD
import Derived.Maps.Own
import Derived.MapKept
import Derived.Laws.StructEq
namespace Go.Proofs.YtedbpjcglnkjmaaGreatDoor
open Go.RowKit Lx Pa MapKept

def opLook (x : List UInt8) : Option (Int × Int × Bool) := (opTab.find? fun e => e.1 == x).map (·.2)
def opW : Option (Int × Int × Bool) → Value
  | some (l, o, x) => opV l o x
  | none => opV 0 0 false
theorem bs_bsq (a b : List UInt8) : (bs a == bs b) = (a == b) := by rw [beq_toListBytes, bs_list, bs_list]
theorem find_ops (x : List UInt8) : ∀ (l : List (List UInt8 × Int × Int × Bool)) (i j : Nat), ∃ q, Instr.findNow .string (.string (bs x)) (opEs l i) j = some (((l.find? fun e => e.1 == x).map (·.2)).map fun e => (q, opV e.1 e.2.1 e.2.2))
  | [], i, j => ⟨0, rfl⟩
  | (s, lv, o, b) :: l, i, j => by
    obtain ⟨q, ih⟩ := find_ops x l (i + 1) (j + 1)
    simp only [opEs, Instr.findNow, Instr.sameNow, bs_bsq, List.find?_cons]
    by_cases h : s = x
    · subst h; exact ⟨j, by simp⟩
    · have h1 : (s == x) = false := by simpa using h
      have h2 : (x == s) = false := by simpa using Ne.symm h
      rw [h1, h2]; exact ⟨q, ih⟩
theorem und_map : Tryz.prog.underlying 92 = some (.map 9 119) := by kernel_rfl
theorem und_str : Tryz.prog.underlying 9 = some .string := by kernel_rfl
theorem zero_op (w : World) : (zeroValue 119).run Tryz.prog w = .ok (opV 0 0 false) w := by kernel_rfl
theorem run_look (x : List UInt8) (mb : Nat) (w : World) (h : w.heap[mb]? = some opObj) : (Instr.lookup 92 (.map (some mb)) (.string (bs x)) false).run Tryz.prog w = .ok (opW (opLook x)) w := by
  obtain ⟨q, hq⟩ := find_ops x opTab 0 0
  have h' : w.heap[mb]? = some (.map (opEs opTab 0).toArray 14) := h
  have hk : IsKey .string (.string (bs x)) := trivial
  have hf := run_findKey (w := w) (l := (opEs opTab 0).toArray.toList) und_str hq
  have hL : (opTab.find? fun e => e.1 == x).map (·.2) = opLook x := rfl
  rw [hL] at hf
  simp only [Instr.lookup, Sem.run_bind, run_underlying und_map, Result.andThen, MapKept.run_getObj_map h', Sem.run_pure, run_checkKey und_str hk, hf]
  cases opLook x with
  | none => simp [go_sem, opW, opV]
  | some e => obtain ⟨l, o, b⟩ := e; simp [go_sem, opW]
theorem run_ins (l : List (List UInt8 × Int × Int × Bool)) (s : List UInt8) (lv op : Int) (x : Bool) (mb : Nat) (w : World) (h : w.heap[mb]? = some (.map (opEs l 0).toArray l.length)) (hf : l.find? (fun e => e.1 == s) = none) :
    (Instr.mapUpdate 92 (.map (some mb)) (.string (bs s)) (opV lv op x)).run Tryz.prog w = .ok () { w with heap := w.heap.setIfInBounds mb (.map (opEs (l ++ [(s, lv, op, x)]) 0).toArray (l.length + 1)) } := by
  obtain ⟨q, hq⟩ := find_ops s l 0 0
  rw [hf] at hq
  have hk : IsKey .string (.string (bs s)) := trivial
  have hg := run_findKey (P := Tryz.prog) (w := w) (kt := 9) (l := (opEs l 0).toArray.toList) und_str hq
  have ha : ∀ (l : List (List UInt8 × Int × Int × Bool)) (i : Nat), opEs (l ++ [(s, lv, op, x)]) i = opEs l i ++ [⟨.string (bs s), opV lv op x, i + l.length⟩] := by
    intro l
    induction l with
    | nil => intro i; rfl
    | cons e l ih => intro i; obtain ⟨a, b, c, d⟩ := e; simp only [List.cons_append, opEs, ih, List.length_cons]; rw [show i + 1 + l.length = i + (l.length + 1) by omega]
  rw [ha]
  simp only [Instr.mapUpdate, Sem.run_bind, run_underlying und_map, Result.andThen, MapKept.run_getObj_map h, run_checkKey und_str hk, hg, Option.map_none, MapKept.run_setObj_map _ h, Nat.zero_add]
  simp
theorem wpList_ins (w0 : World) (w : World) {ops : Array Oper} {rest : List Oper} {o : Oper} {a : Act} {Q : Exit → Act → World → Prop} (hg : o.guard = none) (m v : Operand) (y : Value) (hop : o.op = Op.insert 92 m (.const y) v)
    (l : List (List UInt8 × Int × Int × Bool)) (s : List UInt8) (lv op : Int) (x : Bool) (hy : y = .string (bs s)) (hm : a.eval m = .map (some w0.heap.size)) (hv : a.eval v = opV lv op x)
    (h : w.heap[w0.heap.size]? = some (.map (opEs l 0).toArray l.length)) (hf : l.find? (fun e => e.1 == s) = none) (hB : RowKit.Below w0.heap.size w0 w)
    (hK : ∀ w', w'.heap[w0.heap.size]? = some (.map (opEs (l ++ [(s, lv, op, x)]) 0).toArray (l ++ [(s, lv, op, x)]).length) → RowKit.Below w0.heap.size w0 w' → wpList Tryz.prog ops Q rest (a.put o.dst undef) w') :
    wpList Tryz.prog ops Q (o :: rest) a w := by
  refine wpList_plain hg fun K' hK' => ?_
  subst hy
  have hr := run_ins l s lv op x w0.heap.size w h hf
  have he : a.eval (.const (.string (bs s))) = .string (bs s) := rfl
  unfold Oper.wp
  simp [execOp, hop, hm, hv, he, hr, Result.andThen]
  obtain ⟨h1, h2⟩ := heap_set (o' := .map (opEs (l ++ [(s, lv, op, x)]) 0).toArray (l.length + 1)) h
  refine hK' _ _ (hK _ ?_ ?_)
  · rw [List.length_append]; exact h1
  · exact ⟨hB.os, hB.tape, hB.output, by simpa using hB.size, fun k hk => (h2 k (by omega)).trans (hB.block k hk)⟩
set_option maxRecDepth 100000 in
set_option maxHeartbeats 4000000 in
theorem operators_any (w : World) : Calls Tryz.prog 42 #[] w fun e w' => ∃ mb, e = .returned (.map (some mb)) ∧ w'.heap[mb]? = some opObj ∧ w.heap.size ≤ mb ∧ RowKit.Below w.heap.size w w' := by
  have hmm := @run_makeMap Tryz.prog
  have H0 : (w.alloc (.map #[] 0)).heap[w.heap.size]? = some (.map (opEs (opTab.take 0) 0).toArray (opTab.take 0).length) := by rw [heap_alloc_new]; rfl
  have B0 : RowKit.Below w.heap.size w (w.alloc (.map #[] 0)) := (Below.refl _ _).alloc (Nat.le_refl _) _
  go_enter Tryz.func42, Tryz.ntmps42
  go_wp2_with (first
    | (refine wpList_ins w _ rfl _ _ _ rfl (opTab.take 0) kOr 1 14 false rfl rfl rfl H0 (by decide) B0 ?_; intro w1 H1 B1; clear H0 B0)
    | (refine wpList_ins w _ rfl _ _ _ rfl (opTab.take 1) kAnd 2 13 false rfl rfl rfl H1 (by decide) B1 ?_; intro w2 H2 B2; clear H1 B1)
    | (refine wpList_ins w _ rfl _ _ _ rfl (opTab.take 2) sEq 3 9 false rfl rfl rfl H2 (by decide) B2 ?_; intro w3 H3 B3; clear H2 B2)
    | (refine wpList_ins w _ rfl _ _ _ rfl (opTab.take 3) sNe 3 10 false rfl rfl rfl H3 (by decide) B3 ?_; intro w4 H4 B4; clear H3 B3)
    | (refine wpList_ins w _ rfl _ _ _ rfl (opTab.take 4) sLt 3 11 false rfl rfl rfl H4 (by decide) B4 ?_; intro w5 H5 B5; clear H4 B4)
    | (refine wpList_ins w _ rfl _ _ _ rfl (opTab.take 5) sLe 3 12 false rfl rfl rfl H5 (by decide) B5 ?_; intro w6 H6 B6; clear H5 B5)
    | (refine wpList_ins w _ rfl _ _ _ rfl (opTab.take 6) sGt 3 11 true rfl rfl rfl H6 (by decide) B6 ?_; intro w7 H7 B7; clear H6 B6)
    | (refine wpList_ins w _ rfl _ _ _ rfl (opTab.take 7) sGe 3 12 true rfl rfl rfl H7 (by decide) B7 ?_; intro w8 H8 B8; clear H7 B7)
    | (refine wpList_ins w _ rfl _ _ _ rfl (opTab.take 8) sAdd 4 3 false rfl rfl rfl H8 (by decide) B8 ?_; intro w9 H9 B9; clear H8 B8)
    | (refine wpList_ins w _ rfl _ _ _ rfl (opTab.take 9) sSub 4 4 false rfl rfl rfl H9 (by decide) B9 ?_; intro w10 H10 B10; clear H9 B9)
    | (refine wpList_ins w _ rfl _ _ _ rfl (opTab.take 10) sMul 5 5 false rfl rfl rfl H10 (by decide) B10 ?_; intro w11 H11 B11; clear H10 B10)
    | (refine wpList_ins w _ rfl _ _ _ rfl (opTab.take 11) sDiv 5 6 false rfl rfl rfl H11 (by decide) B11 ?_; intro w12 H12 B12; clear H11 B11)
    | (refine wpList_ins w _ rfl _ _ _ rfl (opTab.take 12) kMin 6 7 false rfl rfl rfl H12 (by decide) B12 ?_; intro w13 H13 B13; clear H12 B12)
    | (refine wpList_ins w _ rfl _ _ _ rfl (opTab.take 13) kMax 6 8 false rfl rfl rfl H13 (by decide) B13 ?_; intro w14 H14 B14; clear H13 B13))
  go_ret
  exact ⟨_, rfl, H14, Nat.le_refl _, B14⟩
end Go.Proofs.YtedbpjcglnkjmaaGreatDoor
namespace Go.Proofs.YtedbpjcglnkjmaaGreatDoor
open Go.RowKit Lx Pa

/-- A box of three cells. -/
structure B3 (w : World) (b : Nat) (x0 x1 x2 : Value) : Prop where
  c0 : w.cell? ⟨b, 0, none⟩ = some x0
  c1 : w.cell? ⟨b, 1, none⟩ = some x1
  c2 : w.cell? ⟨b, 2, none⟩ = some x2
  f0 : w.frozen? ⟨b, 0, none⟩ = false
  f1 : w.frozen? ⟨b, 1, none⟩ = false
  f2 : w.frozen? ⟨b, 2, none⟩ = false
theorem B3.new (w : World) (x0 x1 x2 : Value) (T : Nat) : B3 (w.alloc (.cells #[x0, x1, x2] T)) w.heap.size x0 x1 x2 := ⟨by simp, by simp, by simp, by simp, by simp, by simp⟩
theorem B3.of {w w1 : World} {b : Nat} {x0 x1 x2 : Value} (h : B3 w b x0 x1 x2) (hb : w1.heap[b]? = w.heap[b]?) : B3 w1 b x0 x1 x2 := by
  have c : ∀ o, w1.cell? ⟨b, o, none⟩ = w.cell? ⟨b, o, none⟩ := fun o => World.cell?_of_block (w := w) (a := ⟨b, o, none⟩) hb
  have f : ∀ o, w1.frozen? ⟨b, o, none⟩ = w.frozen? ⟨b, o, none⟩ := fun o => World.frozen?_of_block (w := w) (a := ⟨b, o, none⟩) hb
  exact ⟨(c 0).trans h.c0, (c 1).trans h.c1, (c 2).trans h.c2, (f 0).trans h.f0, (f 1).trans h.f1, (f 2).trans h.f2⟩
theorem B3.bel {w w1 : World} {b : Nat} {x0 x1 x2 : Value} (h : B3 w b x0 x1 x2) (hB : RowKit.Below w.heap.size w w1) : B3 w1 b x0 x1 x2 := h.of (hB.block b (World.block_lt_of_cell? _ _ h.c0))
theorem B3.call {b : Nat} {w w1 : World} {x0 x1 x2 : Value} {r : Nat} (h : B3 w r x0 x1 x2) (hk : Kept b w w1) (hr : r ≠ b) : B3 w1 r x0 x1 x2 := h.of (hk.block r (World.block_lt_of_cell? _ _ h.c0) hr)
theorem B3.put {w : World} {b : Nat} {x0 x1 x2 : Value} (h : B3 w b x0 x1 x2) (y0 y1 y2 : Value) : B3 (((w.setCell ⟨b, 0, none⟩ y0).setCell ⟨b, 1, none⟩ y1).setCell ⟨b, 2, none⟩ y2) b y0 y1 y2 := by
  obtain ⟨c0, c1, c2, f0, f1, f2⟩ := h
  exact ⟨by simp [go_sem, c0], by simp [go_sem, c1], by simp [go_sem, c2], by simp [World.frozen?_setCell, f0], by simp [World.frozen?_setCell, f1], by simp [World.frozen?_setCell, f2]⟩
theorem B3.other {w : World} {b r : Nat} {x0 x1 x2 : Value} (h : B3 w b x0 x1 x2) (hr : b ≠ r) (o : Nat) (y : Value) : B3 (w.setCell ⟨r, o, none⟩ y) b x0 x1 x2 := h.of (Below.heap_setCell _ _ _ _ hr)
/-- Which operator of a level a word or sign is, and whether its operands are exchanged. -/
def opAt (L : Int) (x : List UInt8) : Option (Int × Bool) := match opLook x with
  | some (l, o, e) => if l = L then some (o, e) else none
  | none => none
section
variable {b cap qb En mb k : Nat} {p : Option Addr} {ts : List Tok}
theorem look_lt {ts : List Tok} {En k : Nat} {e : Int × Int × Bool} (h : opLook (pk ts En k).t = some e) : k < ts.length := pk_lt (En := En) (by
  intro h0
  have e : opLook [] = none := by decide
  rw [h0, e] at h
  cases h)
set_option maxRecDepth 100000 in
set_option maxHeartbeats 4000000 in
theorem oper_yes (L : Int) (w : World) (h : Rd w b p cap qb ts En mb k) (hL : 0 < L) (o : Int) (x : Bool) (ho : opAt L (pk ts En k).t = some (o, x)) : Calls Tryz.prog 106 #[.pointer (some ⟨b, 0, none⟩), .int .i64 L] w fun e w' => e = .returned (.tuple #[opV L o x, .bool true]) ∧ Kept b w w' ∧ Rd w' b p cap qb ts En mb (k + 1) := by
  have hf := fld_text
  have KP := Lib.hid (fun w h => peek_any (b := b) (cap := cap) (qb := qb) (En := En) (mb := mb) (k := k) (p := p) (ts := ts) w h)
  have hk1 := succ_in h.kl h.tk.max
  have hl : k < ts.length := by
    unfold opAt at ho
    cases hq : opLook (pk ts En k).t with
    | none => rw [hq] at ho; cases ho
    | some e => exact look_lt hq
  generalize pk ts En k = t at *
  obtain ⟨tk, ta, tt, tn, td⟩ := t
  have hlk : opLook tt = some (L, o, x) := by
    unfold opAt at ho
    cases hq : opLook tt with
    | none => simp only [hq] at ho; cases ho
    | some e =>
      obtain ⟨l, o', x'⟩ := e
      simp only [hq] at ho
      split at ho
      · rename_i e; subst e; cases ho; rfl
      · cases ho
  have KL : ∀ w : World, w.heap[mb]? = some opObj → (Instr.lookup 92 (.map (some mb)) (.string (bs tt)) false).run Tryz.prog w = .ok (.agg #[.int .i64 L, .int .i64 o, .bool x]) w := fun w hw => by
    have := run_look tt mb w hw
    rw [hlk] at this; exact this
  clear ho hlk
  unfold tokV at KP
  have S0 := Lib.hid ((Sx.start h).alloc (.cells #[.int .i64 0, .int .i64 0, .bool false] 119))
  have Z0 := Lib.hid (B3.new w (.int .i64 0) (.int .i64 0) (.bool false) 119)
  have NB : w.heap.size ≠ b := by have := h.lt; omega
  clear h
  go_enter Tryz.func106, Tryz.ntmps106
  go_wp2_with fail
  generalize w.alloc (.cells #[.int .i64 0, .int .i64 0, .bool false] 119) = v at *
  have hS : v.drew.cell? ⟨b, 3, none⟩ = some (.map (some mb)) ∧ v.drew.heap[mb]? = some opObj ∧ Sx w v.drew b p cap qb ts En mb k := ⟨S0.out.rd.c3, S0.out.rd.mp, S0.out.drew⟩
  refine wp_region_held (S := fun w' : World => w'.cell? ⟨b, 3, none⟩ = some (.map (some mb)) ∧ w'.heap[mb]? = some opObj ∧ Sx w w' b p cap qb ts En mb k) mixed ?_
  change wpAnyH _ _ _ _ _ _ _ _ v.drew
  refine tk0 (v := ?_) (by kernel_rfl) (by kernel_rfl) (by kernel_rfl) (fun _ _ _ h => h) (Or.inl ⟨by rfl, ?_⟩) hS ?_
  rotate_left
  · (intro w hSw; (try dsimp only at hSw); go_simp; try with_reducible rfl)
  simp only [Act.put, List.setIfInBounds_toArray, List.set_cons_zero, List.set_cons_succ]
  refine tk1 (v := ?_) (by kernel_rfl) (by kernel_rfl) (by kernel_rfl) (fun _ _ _ h => h) (Or.inl ⟨by rfl, ?_⟩) hS ?_
  rotate_left
  · (intro w hSw; (try dsimp only at hSw); go_simp; try with_reducible rfl)
  simp only [Act.put, List.setIfInBounds_toArray, List.set_cons_zero, List.set_cons_succ]
  refine tk2 (v := ?_) (by kernel_rfl) (by kernel_rfl) (by kernel_rfl) (fun _ _ _ h => h) (Or.inl ⟨by rfl, ?_⟩) hS ?_
  rotate_left
  · (intro w hSw; (try dsimp only at hSw); go_simp; try with_reducible rfl)
  simp only [Act.put, List.setIfInBounds_toArray, List.set_cons_zero, List.set_cons_succ]
  refine tk3 (v := ?_) (by kernel_rfl) (by kernel_rfl) (by kernel_rfl) (fun _ _ _ h => h) (Or.inl ⟨by rfl, ?_⟩) hS ?_
  rotate_left
  · (intro w hSw; (try dsimp only at hSw); go_simp; try with_reducible rfl)
  simp only [Act.put, List.setIfInBounds_toArray, List.set_cons_zero, List.set_cons_succ]
  refine tk4 (v := ?_) (by kernel_rfl) (by kernel_rfl) (by kernel_rfl) (fun _ _ _ h => h) (Or.inl ⟨by rfl, ?_⟩) hS ?_
  rotate_left
  · (intro w hSw; (try dsimp only at hSw); go_simp; try with_reducible rfl)
  simp only [Act.put, List.setIfInBounds_toArray, List.set_cons_zero, List.set_cons_succ]
  refine wpAnyH_ready (rs := [5]) (by kernel_rfl) (by simp) (st5 (fun K hK => ?_) AllReadyH.nil)
  go_simp
  refine (KP.out _ S0.out.drew.rd).mono ?_
  rintro _ v1 ⟨rfl, hb⟩
  have S1 := Lib.hid (S0.out.drew.bel hb)
  have Z1 := Lib.hid ((Z0.out.bel (Below.refl _ _).drew).bel hb)
  go_wp2_with fail
  refine hK.out _ _ ?_ (fun hHeld => ?_)
  · exact ⟨S1.out.rd.c3, S1.out.rd.mp, S1.out⟩
  clear hK K
  try simp only [Act.put, List.setIfInBounds_toArray, List.set_cons_zero, List.set_cons_succ]
  refine tk6 (v := ?_) (by kernel_rfl) (by kernel_rfl) (by kernel_rfl) (fun _ _ _ h => h) (Or.inl ⟨by rfl, ?_⟩) hHeld ?_
  rotate_left
  · (intro w hSw; (try dsimp only at hSw); go_simp; try with_reducible rfl)
  simp only [Act.put, List.setIfInBounds_toArray, List.set_cons_zero, List.set_cons_succ]
  refine tk7 (v := ?_) (by kernel_rfl) (by kernel_rfl) (by kernel_rfl) (fun _ _ _ h => h) (Or.inl ⟨by rfl, ?_⟩) hHeld ?_
  rotate_left
  · (intro w hSw; (try dsimp only at hSw); go_simp; try with_reducible rfl)
  simp only [Act.put, List.setIfInBounds_toArray, List.set_cons_zero, List.set_cons_succ]
  obtain ⟨z0, z1, z2, g0, g1, g2⟩ := Z1.out
  refine wpAnyH_ready (rs := [8]) (by kernel_rfl) (by simp) (st8 (fun K hK => ?_) AllReadyH.nil)
  go_simp
  have S2 := Lib.hid (((S1.out.other (Nat.le_refl _) 0 (.int .i64 L)).other (Nat.le_refl _) 1 (.int .i64 o)).other (Nat.le_refl _) 2 (.bool x))
  refine hK.out _ _ ?_ (fun hHeld => ?_)
  · exact ⟨S2.out.rd.c3, S2.out.rd.mp, S2.out⟩
  clear hK K
  try simp only [Act.put, List.setIfInBounds_toArray, List.set_cons_zero, List.set_cons_succ]
  refine wpAnyH_done (by kernel_rfl) ?_ _
  have Z2 := Lib.hid (Z1.out.put (.int .i64 L) (.int .i64 o) (.bool x))
  clear z0 z1 z2 g0 g1 g2 hHeld
  generalize (((v1.setCell ⟨w.heap.size, 0, none⟩ (.int .i64 L)).setCell ⟨w.heap.size, 1, none⟩ (.int .i64 o)).setCell ⟨w.heap.size, 2, none⟩ (.bool x)) = v2 at *
  obtain ⟨-, c1, -, -, f1, -, -, -, -, -, -⟩ := S2.out.rd
  obtain ⟨z0, z1, z2, g0, g1, g2⟩ := Z2.out
  go_wp2_with fail
  exact bodyPost_ret (v := .tuple #[opV L o x, .bool true]) (by simp [results, Tryz.results106, go_sem, opV, z0, z1, z2]) rfl ⟨rfl, ((((S2.out.next hl).other (Nat.le_refl _) 0 _).other (Nat.le_refl _) 1 _).other (Nat.le_refl _) 2 _).kp, ((((S2.out.next hl).other (Nat.le_refl _) 0 _).other (Nat.le_refl _) 1 _).other (Nat.le_refl _) 2 _).rd⟩
set_option maxRecDepth 100000 in
set_option maxHeartbeats 4000000 in
theorem oper_no (L : Int) (w : World) (h : Rd w b p cap qb ts En mb k) (hL : 0 < L) (ho : opAt L (pk ts En k).t = none) : Calls Tryz.prog 106 #[.pointer (some ⟨b, 0, none⟩), .int .i64 L] w fun e w' => e = .returned (.tuple #[opV 0 0 false, .bool false]) ∧ Kept b w w' ∧ Rd w' b p cap qb ts En mb k := by
  have hf := fld_text
  have KP := Lib.hid (fun w h => peek_any (b := b) (cap := cap) (qb := qb) (En := En) (mb := mb) (k := k) (p := p) (ts := ts) w h)
  generalize pk ts En k = t at *
  obtain ⟨tk, ta, tt, tn, td⟩ := t
  obtain ⟨l, o, x, hlk, hn⟩ : ∃ l o x, opW (opLook tt) = opV l o x ∧ l ≠ L := by
    unfold opAt at ho
    cases hq : opLook tt with
    | none => exact ⟨0, 0, false, rfl, by omega⟩
    | some e =>
      obtain ⟨l, o, x⟩ := e
      simp only [hq] at ho
      split at ho
      · cases ho
      · rename_i e; exact ⟨l, o, x, rfl, e⟩
  have hn2 : (l == L) = false := by simpa using hn
  have KL : ∀ w : World, w.heap[mb]? = some opObj → (Instr.lookup 92 (.map (some mb)) (.string (bs tt)) false).run Tryz.prog w = .ok (.agg #[.int .i64 l, .int .i64 o, .bool x]) w := fun w hw => by
    have := run_look tt mb w hw
    rw [hlk] at this; exact this
  clear ho hlk
  unfold tokV at KP
  have S0 := Lib.hid ((Sx.start h).alloc (.cells #[.int .i64 0, .int .i64 0, .bool false] 119))
  have Z0 := Lib.hid (B3.new w (.int .i64 0) (.int .i64 0) (.bool false) 119)
  have NB : w.heap.size ≠ b := by have := h.lt; omega
  clear h
  go_enter Tryz.func106, Tryz.ntmps106
  go_wp2_with fail
  generalize w.alloc (.cells #[.int .i64 0, .int .i64 0, .bool false] 119) = v at *
  have hS : v.drew.cell? ⟨b, 3, none⟩ = some (.map (some mb)) ∧ v.drew.heap[mb]? = some opObj ∧ Sx w v.drew b p cap qb ts En mb k := ⟨S0.out.rd.c3, S0.out.rd.mp, S0.out.drew⟩
  refine wp_region_held (S := fun w' : World => w'.cell? ⟨b, 3, none⟩ = some (.map (some mb)) ∧ w'.heap[mb]? = some opObj ∧ Sx w w' b p cap qb ts En mb k) mixed ?_
  change wpAnyH _ _ _ _ _ _ _ _ v.drew
  refine tk0 (v := ?_) (by kernel_rfl) (by kernel_rfl) (by kernel_rfl) (fun _ _ _ h => h) (Or.inl ⟨by rfl, ?_⟩) hS ?_
  rotate_left
  · (intro w hSw; (try dsimp only at hSw); go_simp; try with_reducible rfl)
  simp only [Act.put, List.setIfInBounds_toArray, List.set_cons_zero, List.set_cons_succ]
  refine tk1 (v := ?_) (by kernel_rfl) (by kernel_rfl) (by kernel_rfl) (fun _ _ _ h => h) (Or.inl ⟨by rfl, ?_⟩) hS ?_
  rotate_left
  · (intro w hSw; (try dsimp only at hSw); go_simp; try with_reducible rfl)
  simp only [Act.put, List.setIfInBounds_toArray, List.set_cons_zero, List.set_cons_succ]
  refine tk2 (v := ?_) (by kernel_rfl) (by kernel_rfl) (by kernel_rfl) (fun _ _ _ h => h) (Or.inl ⟨by rfl, ?_⟩) hS ?_
  rotate_left
  · (intro w hSw; (try dsimp only at hSw); go_simp; try with_reducible rfl)
  simp only [Act.put, List.setIfInBounds_toArray, List.set_cons_zero, List.set_cons_succ]
  refine tk3 (v := ?_) (by kernel_rfl) (by kernel_rfl) (by kernel_rfl) (fun _ _ _ h => h) (Or.inl ⟨by rfl, ?_⟩) hS ?_
  rotate_left
  · (intro w hSw; (try dsimp only at hSw); go_simp; try with_reducible rfl)
  simp only [Act.put, List.setIfInBounds_toArray, List.set_cons_zero, List.set_cons_succ]
  refine tk4 (v := ?_) (by kernel_rfl) (by kernel_rfl) (by kernel_rfl) (fun _ _ _ h => h) (Or.inl ⟨by rfl, ?_⟩) hS ?_
  rotate_left
  · (intro w hSw; (try dsimp only at hSw); go_simp; try with_reducible rfl)
  simp only [Act.put, List.setIfInBounds_toArray, List.set_cons_zero, List.set_cons_succ]
  refine wpAnyH_ready (rs := [5]) (by kernel_rfl) (by simp) (st5 (fun K hK => ?_) AllReadyH.nil)
  go_simp
  refine (KP.out _ S0.out.drew.rd).mono ?_
  rintro _ v1 ⟨rfl, hb⟩
  have S1 := Lib.hid (S0.out.drew.bel hb)
  have Z1 := Lib.hid ((Z0.out.bel (Below.refl _ _).drew).bel hb)
  go_wp2_with fail
  refine hK.out _ _ ?_ (fun hHeld => ?_)
  · exact ⟨S1.out.rd.c3, S1.out.rd.mp, S1.out⟩
  clear hK K
  try simp only [Act.put, List.setIfInBounds_toArray, List.set_cons_zero, List.set_cons_succ]
  refine tk6 (v := ?_) (by kernel_rfl) (by kernel_rfl) (by kernel_rfl) (fun _ _ _ h => h) (Or.inl ⟨by rfl, ?_⟩) hHeld ?_
  rotate_left
  · (intro w hSw; (try dsimp only at hSw); go_simp; try with_reducible rfl)
  simp only [Act.put, List.setIfInBounds_toArray, List.set_cons_zero, List.set_cons_succ]
  refine tk7 (v := ?_) (by kernel_rfl) (by kernel_rfl) (by kernel_rfl) (fun _ _ _ h => h) (Or.inl ⟨by rfl, ?_⟩) hHeld ?_
  rotate_left
  · (intro w hSw; (try dsimp only at hSw); go_simp; try with_reducible rfl)
  simp only [Act.put, List.setIfInBounds_toArray, List.set_cons_zero, List.set_cons_succ]
  obtain ⟨z0, z1, z2, g0, g1, g2⟩ := Z1.out
  refine wpAnyH_ready (rs := [8]) (by kernel_rfl) (by simp) (st8 (fun K hK => ?_) AllReadyH.nil)
  go_simp
  have S2 := Lib.hid (((S1.out.other (Nat.le_refl _) 0 (.int .i64 l)).other (Nat.le_refl _) 1 (.int .i64 o)).other (Nat.le_refl _) 2 (.bool x))
  refine hK.out _ _ ?_ (fun hHeld => ?_)
  · exact ⟨S2.out.rd.c3, S2.out.rd.mp, S2.out⟩
  clear hK K
  try simp only [Act.put, List.setIfInBounds_toArray, List.set_cons_zero, List.set_cons_succ]
  refine wpAnyH_done (by kernel_rfl) ?_ _
  have Z2 := Lib.hid (Z1.out.put (.int .i64 l) (.int .i64 o) (.bool x))
  clear z0 z1 z2 g0 g1 g2 hHeld
  generalize (((v1.setCell ⟨w.heap.size, 0, none⟩ (.int .i64 l)).setCell ⟨w.heap.size, 1, none⟩ (.int .i64 o)).setCell ⟨w.heap.size, 2, none⟩ (.bool x)) = v2 at *
  obtain ⟨z0, z1, z2, g0, g1, g2⟩ := Z2.out
  go_wp2_with fail
  exact bodyPost_ret (v := .tuple #[opV 0 0 false, .bool false]) (by simp [results, Tryz.results106, go_sem, opV, z0, z1, z2]) rfl ⟨rfl, (((S2.out.other (Nat.le_refl _) 0 _).other (Nat.le_refl _) 1 _).other (Nat.le_refl _) 2 _).kp, (((S2.out.other (Nat.le_refl _) 0 _).other (Nat.le_refl _) 1 _).other (Nat.le_refl _) 2 _).rd⟩
end
end Go.Proofs.YtedbpjcglnkjmaaGreatDoor
namespace Go.Proofs.YtedbpjcglnkjmaaGreatDoor
open Go.RowKit Lx Pa

theorem heap_top {w : World} {o : Obj} {n : Nat} (h : n = w.heap.size) : (w.alloc o).heap[n]? = some o := by subst h; exact heap_alloc_new w o
set_option maxRecDepth 100000 in
set_option maxHeartbeats 6000000 in
theorem node_no (A : Nat → Prop) (ofs : Nat → Int) (L o : Int) (pl : Nat) (t1 t2 : Tree) (x y : NV) (w : World) (hx : NodeA w A ofs t1 x) (hy : NodeA w A ofs t2 y) (hlo : ∀ b, w.heap.size ≤ b → A b) :
    Calls Tryz.prog 107 #[opV L o false, .int .i64 (ofs pl), nv x, nv y] w fun e w' => ∃ z, e = .returned (nv z) ∧ NodeA w' A ofs (.mk o pl [] 0 0 1 [t1, t2]) z ∧ RowKit.Below w.heap.size w w' := by
  have HX := Lib.hid hx
  have HY := Lib.hid hy
  have HR := Lib.hid (Below.refl w.heap.size w)
  obtain ⟨at0, hat⟩ : ∃ z, z = ofs pl := ⟨_, rfl⟩
  rw [← hat]
  have HAT := Lib.hid hat
  clear hat hx hy
  obtain ⟨xo, xa, xs, xn, xd, xf, xm, xr, xy, xq, xk, xc⟩ := x
  obtain ⟨yo, ya, ys, yn, yd, yf, ym, yr, yy, yq, yk, yc⟩ := y
  unfold nv opV
  go_enter Tryz.func107, Tryz.ntmps107
  go_wp2_with fail
  refine bodyPost_ret (v := .agg #[.int .i64 o, .int .i64 at0, .string ⟨#[]⟩, .int .i64 0, .int .i64 0, .bool false, .int .i64 0, .int .i64 0, .int .i64 0, .slice (some ⟨w.heap.size + 1 + 1 + 1 + 1, 0, none⟩) 2 2]) (by simp [results, Tryz.results107, go_sem]) rfl ⟨⟨o, at0, ⟨#[]⟩, 0, 0, false, 0, 0, 0, some ⟨w.heap.size + 1 + 1 + 1 + 1, 0, none⟩, 2, 2⟩, rfl, ?_, (by repeat' (first | (with_reducible exact HR.out) | (with_reducible refine Below.setCell ?_ ?_ _) | (with_reducible refine Below.alloc ?_ ?_ _) | (with_reducible refine Below.drew ?_) | (with_reducible refine below_drewN ?_ _) | (with_reducible exact Below.refl _ _) | omega | (simp; done) | (simp; omega)))⟩
  have hb : ∀ w', RowKit.Below w.heap.size w w' → w'.heap[w.heap.size + 1 + 1 + 1 + 1]? = some (.cells ([⟨xo, xa, xs, xn, xd, xf, xm, xr, xy, xq, xk, xc⟩, ⟨yo, ya, ys, yn, yd, yf, ym, yr, yy, yq, yk, yc⟩].flatMap NV.cells).toArray 36) → NodeA w' A ofs (.mk o pl [] 0 0 1 [t1, t2]) ⟨o, at0, ⟨#[]⟩, 0, 0, false, 0, 0, 0, some ⟨w.heap.size + 1 + 1 + 1 + 1, 0, none⟩, 2, 2⟩ := fun w' hB hw => by
    rw [HAT.out]
    refine node_at [t1, t2] [⟨xo, xa, xs, xn, xd, xf, xm, xr, xy, xq, xk, xc⟩, ⟨yo, ya, ys, yn, yd, yf, ym, yr, yy, yq, yk, yc⟩] o pl 2 rfl (hlo _ (by omega)) (fun i h h' => ?_) hw
    match i, h with
    | 0, _ => exact NodeA.bel hB _ _ HX.out
    | 1, _ => exact NodeA.bel hB _ _ HY.out
  refine hb _ (by repeat' (first | (with_reducible exact HR.out) | (with_reducible refine Below.setCell ?_ ?_ _) | (with_reducible refine Below.alloc ?_ ?_ _) | (with_reducible refine Below.drew ?_) | (with_reducible refine below_drewN ?_ _) | (with_reducible exact Below.refl _ _) | omega | (simp; done) | (simp; omega))) ?_
  exact heap_top (by simp)
set_option maxRecDepth 100000 in
set_option maxHeartbeats 6000000 in
theorem node_yes (A : Nat → Prop) (ofs : Nat → Int) (L o : Int) (pl : Nat) (t1 t2 : Tree) (x y : NV) (w : World) (hx : NodeA w A ofs t1 x) (hy : NodeA w A ofs t2 y) (hlo : ∀ b, w.heap.size ≤ b → A b) :
    Calls Tryz.prog 107 #[opV L o true, .int .i64 (ofs pl), nv x, nv y] w fun e w' => ∃ z, e = .returned (nv z) ∧ NodeA w' A ofs (.mk o pl [] 0 0 1 [t2, t1]) z ∧ RowKit.Below w.heap.size w w' := by
  have HX := Lib.hid hx
  have HY := Lib.hid hy
  have HR := Lib.hid (Below.refl w.heap.size w)
  obtain ⟨at0, hat⟩ : ∃ z, z = ofs pl := ⟨_, rfl⟩
  rw [← hat]
  have HAT := Lib.hid hat
  clear hat hx hy
  obtain ⟨xo, xa, xs, xn, xd, xf, xm, xr, xy, xq, xk, xc⟩ := x
  obtain ⟨yo, ya, ys, yn, yd, yf, ym, yr, yy, yq, yk, yc⟩ := y
  unfold nv opV
  go_enter Tryz.func107, Tryz.ntmps107
  go_wp2_with fail
  refine bodyPost_ret (v := .agg #[.int .i64 o, .int .i64 at0, .string ⟨#[]⟩, .int .i64 0, .int .i64 0, .bool false, .int .i64 0, .int .i64 0, .int .i64 0, .slice (some ⟨w.heap.size + 1 + 1 + 1 + 1, 0, none⟩) 2 2]) (by simp [results, Tryz.results107, go_sem]) rfl ⟨⟨o, at0, ⟨#[]⟩, 0, 0, false, 0, 0, 0, some ⟨w.heap.size + 1 + 1 + 1 + 1, 0, none⟩, 2, 2⟩, rfl, ?_, (by repeat' (first | (with_reducible exact HR.out) | (with_reducible refine Below.setCell ?_ ?_ _) | (with_reducible refine Below.alloc ?_ ?_ _) | (with_reducible refine Below.drew ?_) | (with_reducible refine below_drewN ?_ _) | (with_reducible exact Below.refl _ _) | omega | (simp; done) | (simp; omega)))⟩
  have hb : ∀ w', RowKit.Below w.heap.size w w' → w'.heap[w.heap.size + 1 + 1 + 1 + 1]? = some (.cells ([⟨yo, ya, ys, yn, yd, yf, ym, yr, yy, yq, yk, yc⟩, ⟨xo, xa, xs, xn, xd, xf, xm, xr, xy, xq, xk, xc⟩].flatMap NV.cells).toArray 36) → NodeA w' A ofs (.mk o pl [] 0 0 1 [t2, t1]) ⟨o, at0, ⟨#[]⟩, 0, 0, false, 0, 0, 0, some ⟨w.heap.size + 1 + 1 + 1 + 1, 0, none⟩, 2, 2⟩ := fun w' hB hw => by
    rw [HAT.out]
    refine node_at [t2, t1] [⟨yo, ya, ys, yn, yd, yf, ym, yr, yy, yq, yk, yc⟩, ⟨xo, xa, xs, xn, xd, xf, xm, xr, xy, xq, xk, xc⟩] o pl 2 rfl (hlo _ (by omega)) (fun i h h' => ?_) hw
    match i, h with
    | 0, _ => exact NodeA.bel hB _ _ HY.out
    | 1, _ => exact NodeA.bel hB _ _ HX.out
  refine hb _ (by repeat' (first | (with_reducible exact HR.out) | (with_reducible refine Below.setCell ?_ ?_ _) | (with_reducible refine Below.alloc ?_ ?_ _) | (with_reducible refine Below.drew ?_) | (with_reducible refine below_drewN ?_ _) | (with_reducible exact Below.refl _ _) | omega | (simp; done) | (simp; omega))) ?_
  exact heap_top (by simp)
theorem node_any (A : Nat → Prop) (ofs : Nat → Int) (L o : Int) (ex : Bool) (pl : Nat) (t1 t2 : Tree) (x y : NV) (w : World) (hx : NodeA w A ofs t1 x) (hy : NodeA w A ofs t2 y) (hlo : ∀ b, w.heap.size ≤ b → A b) :
    Calls Tryz.prog 107 #[opV L o ex, .int .i64 (ofs pl), nv x, nv y] w fun e w' => ∃ z, e = .returned (nv z) ∧ NodeA w' A ofs (.mk o pl [] 0 0 1 (if ex = true then [t2, t1] else [t1, t2])) z ∧ RowKit.Below w.heap.size w w' := by
  cases ex
  · exact node_no A ofs L o pl t1 t2 x y w hx hy hlo
  · exact node_yes A ofs L o pl t1 t2 x y w hx hy hlo
end Go.Proofs.YtedbpjcglnkjmaaGreatDoor
namespace Go.Proofs.YtedbpjcglnkjmaaGreatDoor
open Go.RowKit Lx Pa

/-- What money does to a number: 100 times. -/
def M0 (n d : Int) : Int × Int × Int := op2 n d 100 1 (n * 100) (d * 1)
def numO (M : Int → Int → Int × Int × Int) (t : Tok) (r : List Tok) : Out Tree := match which units r with
  | none => .ok (.mk 1 (r.length + 1) [] t.n t.d 1 []) r
  | some u => if u = 2 then (if (M t.n t.d).2.2 = 0 then .ok (.mk 1 (r.length + 1) [] (M t.n t.d).1 (M t.n t.d).2.1 2 []) r.tail else .er 3 (r.length + 1) (r.length - 1))
    else .ok (.mk 1 (r.length + 1) [] t.n t.d u []) r.tail
/-- A value that is a node over an expression. -/
def vX (lo : Nat) (ofs : Nat → Int) (t : Tree) (v : Value) (w : World) : Prop := ∃ x, v = nv x ∧ NodeV w lo ofs t x
theorem At2.put {w : World} {b : Nat} {x0 x1 : Value} (h : At2 w b x0 x1) (y0 y1 : Value) : At2 ((w.setCell ⟨b, 0, none⟩ y0).setCell ⟨b, 1, none⟩ y1) b y0 y1 := by
  obtain ⟨c0, c1, f0, f1⟩ := h
  exact ⟨by simp [go_sem, c0], by simp [go_sem, c1], by simp [World.frozen?_setCell, f0], by simp [World.frozen?_setCell, f1]⟩
set_option maxRecDepth 100000 in
set_option maxHeartbeats 2000000 in
theorem cents_ok (k a n d : Int) (t : ByteArray) (w : World) (n0 : -9223372036854775808 ≤ n) (n1 : n ≤ 9223372036854775807) (d0 : -9223372036854775808 ≤ d) (d1 : d ≤ 9223372036854775807) (hz : (M0 n d).2.2 = 0) :
    Calls Tryz.prog 156 #[.agg #[.int .i64 k, .int .i64 a, .string t, .int .i64 n, .int .i64 d]] w fun e w' => e = .returned (.agg #[.int .i64 (M0 n d).1, .int .i64 (M0 n d).2.1]) ∧ RowKit.Below w.heap.size w w' := by
  have KM := Lib.hid (fun w => mul_any n d 100 1 w n0 n1 d0 d1 (by omega) (by omega) (by omega) (by omega))
  have HR := Lib.hid (Below.refl w.heap.size w)
  unfold M0 at hz ⊢
  generalize op2 n d 100 1 (n * 100) (d * 1) = r at *
  obtain ⟨r0, r1, r2⟩ := r
  simp only at *
  clear n0 n1 d0 d1
  have B1 := Lib.hid (((Below.refl w.heap.size w).alloc (Nat.le_refl _) (.cells #[.int .i64 k, .int .i64 a, .string t, .int .i64 n, .int .i64 d] 88)).alloc (by simp) (.cells #[.int .i64 0, .int .i64 0] 31))
  have X1 := Lib.hid ((B5.new w (.int .i64 k) (.int .i64 a) (.string t) (.int .i64 n) (.int .i64 d) 88).bel ((Below.refl _ _).alloc (Nat.le_refl _) (.cells #[.int .i64 0, .int .i64 0] 31)))
  have Z1 := Lib.hid (At2.new (w.alloc (.cells #[.int .i64 k, .int .i64 a, .string t, .int .i64 n, .int .i64 d] 88)) (.int .i64 0) (.int .i64 0) 31)
  rw [World.size_alloc] at Z1
  subst hz
  go_enter Tryz.func156, Tryz.ntmps156
  go_wp2_with fail
  generalize (w.alloc (.cells #[.int .i64 k, .int .i64 a, .string t, .int .i64 n, .int .i64 d] 88)).alloc (.cells #[.int .i64 0, .int .i64 0] 31) = v at *
  refine (KM.out _).mono ?_
  rintro _ v1 ⟨rfl, hb⟩
  have B2 := Lib.hid (B1.out.trans (hb.mono B1.out.size))
  replace Z1 := Lib.hid (Z1.out.bel hb)
  replace X1 := Lib.hid (X1.out.bel hb)
  have NV : w.heap.size ≠ v1.heap.size := by have := World.block_lt_of_cell? _ _ X1.out.c0; simp at this; omega
  have NV2 : w.heap.size + 1 ≠ v1.heap.size := by have := World.block_lt_of_cell? _ _ Z1.out.c0; simp at this; omega
  clear hb KM B1
  have Z2 := Lib.hid (Z1.out.bel ((Below.refl _ _).alloc (Nat.le_refl _) (.cells #[.int .i64 r0, .int .i64 r1] 31)))
  obtain ⟨z0, z1, g0, g1⟩ := Z2.out
  clear X1 Z1
  have hbs := B2.out.size
  go_wp2_with fail
  refine (?_ : ∀ F : World, At2 F (w.heap.size + 1) (.int .i64 r0) (.int .i64 r1) → RowKit.Below w.heap.size w F → bodyPost _ _ _ _ _ F) _ (Z2.out.put _ _) (by repeat' (first | (with_reducible exact B2.out) | (with_reducible refine Below.setCell ?_ ?_ _) | (with_reducible refine Below.alloc ?_ ?_ _) | (with_reducible refine Below.drew ?_) | (with_reducible refine below_drewN ?_ _) | (with_reducible exact Below.refl _ _) | omega | (simp; done) | (simp; omega)))
  intro F hF hB
  obtain ⟨y0, y1, -, -⟩ := hF
  exact bodyPost_ret (v := .agg #[.int .i64 r0, .int .i64 r1]) (by simp [results, Tryz.results156, go_sem, y0, y1]) rfl ⟨rfl, hB⟩
set_option maxRecDepth 100000 in
set_option maxHeartbeats 2000000 in
theorem cents_er (k a n d : Int) (t : ByteArray) (w : World) (n0 : -9223372036854775808 ≤ n) (n1 : n ≤ 9223372036854775807) (d0 : -9223372036854775808 ≤ d) (d1 : d ≤ 9223372036854775807) (hz : (M0 n d).2.2 ≠ 0) :
    Calls Tryz.prog 156 #[.agg #[.int .i64 k, .int .i64 a, .string t, .int .i64 n, .int .i64 d]] w fun e w' => e = .panicked (failP 3 a) ∧ RowKit.Below w.heap.size w w' := by
  have KM := Lib.hid (fun w => mul_any n d 100 1 w n0 n1 d0 d1 (by omega) (by omega) (by omega) (by omega))
  have HR := Lib.hid (Below.refl w.heap.size w)
  unfold M0 at hz
  generalize op2 n d 100 1 (n * 100) (d * 1) = r at *
  obtain ⟨r0, r1, r2⟩ := r
  simp only at *
  clear n0 n1 d0 d1
  have B1 := Lib.hid (((Below.refl w.heap.size w).alloc (Nat.le_refl _) (.cells #[.int .i64 k, .int .i64 a, .string t, .int .i64 n, .int .i64 d] 88)).alloc (by simp) (.cells #[.int .i64 0, .int .i64 0] 31))
  have X1 := Lib.hid ((B5.new w (.int .i64 k) (.int .i64 a) (.string t) (.int .i64 n) (.int .i64 d) 88).bel ((Below.refl _ _).alloc (Nat.le_refl _) (.cells #[.int .i64 0, .int .i64 0] 31)))
  have Z1 := Lib.hid (At2.new (w.alloc (.cells #[.int .i64 k, .int .i64 a, .string t, .int .i64 n, .int .i64 d] 88)) (.int .i64 0) (.int .i64 0) 31)
  rw [World.size_alloc] at Z1
  have e1 : (r2 == 0) = false := by simpa using hz
  go_enter Tryz.func156, Tryz.ntmps156
  go_wp2_with fail
  generalize (w.alloc (.cells #[.int .i64 k, .int .i64 a, .string t, .int .i64 n, .int .i64 d] 88)).alloc (.cells #[.int .i64 0, .int .i64 0] 31) = v at *
  refine (KM.out _).mono ?_
  rintro _ v1 ⟨rfl, hb⟩
  have B2 := Lib.hid (B1.out.trans (hb.mono B1.out.size))
  replace Z1 := Lib.hid (Z1.out.bel hb)
  replace X1 := Lib.hid (X1.out.bel hb)
  have NV : w.heap.size ≠ v1.heap.size := by have := World.block_lt_of_cell? _ _ X1.out.c0; simp at this; omega
  have NV2 : w.heap.size + 1 ≠ v1.heap.size := by have := World.block_lt_of_cell? _ _ Z1.out.c0; simp at this; omega
  clear hb KM B1
  obtain ⟨x0, x1, x2, x3, x4, -, -, -, -, -⟩ := X1.out.bel ((Below.refl _ _).alloc (Nat.le_refl _) (.cells #[.int .i64 r0, .int .i64 r1] 31))
  have hbs := B2.out.size
  clear Z1
  go_wp2_with fail
  refine (fail_p _ _ _).mono ?_
  rintro _ _ ⟨rfl, rfl⟩
  go_wp2_with fail
  exact bodyPost_panic rfl ⟨rfl, (by repeat' (first | (with_reducible exact B2.out) | (with_reducible refine Below.setCell ?_ ?_ _) | (with_reducible refine Below.alloc ?_ ?_ _) | (with_reducible refine Below.drew ?_) | (with_reducible refine below_drewN ?_ _) | (with_reducible exact Below.refl _ _) | omega | (simp; done) | (simp; omega)))⟩
section
variable {b cap qb En mb k : Nat} {p : Option Addr} {ts : List Tok}
set_option maxRecDepth 100000 in
set_option maxHeartbeats 6000000 in
theorem num_none (w : World) (h : Rd w b p cap qb ts En mb k) (hk : (pk ts En k).k = 2) (hu : idx units (pk ts En (k + 1)).t = none) :
    Calls Tryz.prog 153 #[.pointer (some ⟨b, 0, none⟩)] w fun e w' => PostO w b p cap qb ts En mb (vX w.heap.size (offs ts En)) (.ok (.mk 1 (ts.length - k) [] (pk ts En k).n (pk ts En k).d 1 []) (ts.drop (k + 1))) e w' := by
  have hf := fld_text
  have hk1 := succ_in h.kl h.tk.max
  have hl : k < ts.length := pk_lt' (En := En) (by rw [hk]; decide)
  have KP := Lib.hid (fun w h => peek_any (b := b) (cap := cap) (qb := qb) (En := En) (mb := mb) (k := k) (p := p) (ts := ts) w h)
  have KP2 := Lib.hid (fun w h => peek_any (b := b) (cap := cap) (qb := qb) (En := En) (mb := mb) (k := k + 1) (p := p) (ts := ts) w h)
  have S0 := Lib.hid ((Sx.start h).alloc (.cells zNode.toArray 36))
  have R0 := Lib.hid (B10.new w (.int .i64 0) (.int .i64 0) (.string ⟨#[]⟩) (.int .i64 0) (.int .i64 0) (.bool false) (.int .i64 0) (.int .i64 0) (.int .i64 0) (.slice none 0 0) 36)
  have HO : Hid ((pk ts En k).a = offs ts En (ts.length - k)) := pk_offs h.kl
  have NB : w.heap.size ≠ b := by have := h.lt; omega
  clear h
  generalize pk ts En k = t at *
  obtain ⟨tk, ta, tt, tn, td⟩ := t
  simp only at hk
  subst hk
  generalize pk ts En (k + 1) = t2 at *
  obtain ⟨uk, ua, ut, un, ud⟩ := t2
  have KU := Lib.hid (fun w => unitOf_any ut w)
  simp only at hu
  rw [hu] at KU
  clear hu
  unfold tokV at KP KP2
  unfold zNode at S0
  go_enter Tryz.func153, Tryz.ntmps153
  go_wp2_with fail
  refine (KP.out _ S0.out.rd).mono ?_
  rintro _ v ⟨rfl, hb⟩
  have S1 := Lib.hid ((S0.out.bel hb).alloc (tBox 2 ta tn td (bs tt)))
  have R1 := Lib.hid ((R0.out.bel hb).bel ((Below.refl _ _).alloc (Nat.le_refl _) (tBox 2 ta tn td (bs tt))))
  have X1 := Lib.hid (B5.new v (.int .i64 2) (.int .i64 ta) (.string (bs tt)) (.int .i64 tn) (.int .i64 td) 88)
  have NB1 : v.heap.size ≠ b := by have h1 := (S0.out.bel hb).kp.size; have h2 := S0.out.bl; omega
  have NB3 : v.heap.size + 1 ≠ b := by have h1 := (S0.out.bel hb).kp.size; have h2 := S0.out.bl; omega
  have NR : w.heap.size < v.heap.size := by have := World.block_lt_of_cell? _ _ (R0.out.bel hb).c0; exact this
  clear hb S0 R0 KP
  unfold tBox at S1 R1
  obtain ⟨x0, x1, x2, x3, x4, -, -, -, -, -⟩ := X1.out
  obtain ⟨-, c1, -, -, f1, -, -, -, -, -, -⟩ := S1.out.rd
  have S2 := Lib.hid ((S1.out.next hl).alloc (.cells #[.int .i64 1, .int .i64 ta, .string ⟨#[]⟩, .int .i64 tn, .int .i64 td, .bool false, .int .i64 0, .int .i64 0, .int .i64 0, .slice none 0 0] 36))
  have N2 := Lib.hid (B10.new ((v.alloc (.cells #[.int .i64 2, .int .i64 ta, .string (bs tt), .int .i64 tn, .int .i64 td] 88)).setCell ⟨b, 1, none⟩ (.int .i64 (k + 1 : Nat))) (.int .i64 1) (.int .i64 ta) (.string ⟨#[]⟩) (.int .i64 tn) (.int .i64 td) (.bool false) (.int .i64 0) (.int .i64 0) (.int .i64 0) (.slice none 0 0) 36)
  have R2 := Lib.hid ((R1.out.other NB 1 none (.int .i64 (k + 1 : Nat))).bel ((Below.refl _ _).alloc (Nat.le_refl _) (.cells #[.int .i64 1, .int .i64 ta, .string ⟨#[]⟩, .int .i64 tn, .int .i64 td, .bool false, .int .i64 0, .int .i64 0, .int .i64 0, .slice none 0 0] 36)))
  have X2 := Lib.hid ((X1.out.other NB1 1 none (.int .i64 (k + 1 : Nat))).bel ((Below.refl _ _).alloc (Nat.le_refl _) (.cells #[.int .i64 1, .int .i64 ta, .string ⟨#[]⟩, .int .i64 tn, .int .i64 td, .bool false, .int .i64 0, .int .i64 0, .int .i64 0, .slice none 0 0] 36)))
  rw [show ((v.alloc (.cells #[.int .i64 2, .int .i64 ta, .string (bs tt), .int .i64 tn, .int .i64 td] 88)).setCell ⟨b, 1, none⟩ (.int .i64 (k + 1 : Nat))).heap.size = v.heap.size + 1 by simp [World.setCell]] at N2
  go_wp2_with fail
  clear x0 x1 x2 x3 x4 c1 f1 S1 R1 X1
  change Calls _ _ _ (((v.alloc (.cells #[.int .i64 2, .int .i64 ta, .string (bs tt), .int .i64 tn, .int .i64 td] 88)).setCell ⟨b, 1, none⟩ (.int .i64 (k + 1 : Nat))).alloc (.cells #[.int .i64 1, .int .i64 ta, .string ⟨#[]⟩, .int .i64 tn, .int .i64 td, .bool false, .int .i64 0, .int .i64 0, .int .i64 0, .slice none 0 0] 36)) _
  generalize (((v.alloc (.cells #[.int .i64 2, .int .i64 ta, .string (bs tt), .int .i64 tn, .int .i64 td] 88)).setCell ⟨b, 1, none⟩ (.int .i64 (k + 1 : Nat))).alloc (.cells #[.int .i64 1, .int .i64 ta, .string ⟨#[]⟩, .int .i64 tn, .int .i64 td, .bool false, .int .i64 0, .int .i64 0, .int .i64 0, .slice none 0 0] 36)) = V at *
  refine (KP2.out _ S2.out.rd).mono ?_
  rintro _ v3 ⟨rfl, hb⟩
  have S3 := Lib.hid (S2.out.bel hb)
  have N3 := Lib.hid (N2.out.bel hb)
  have R3 := Lib.hid (R2.out.bel hb)
  have X3 := Lib.hid (X2.out.bel hb)
  clear hb S2 N2 R2 X2 KP2
  go_wp2_with fail
  refine (KU.out _).mono ?_
  rintro _ v4 ⟨rfl, hb⟩
  have hB4 := hb.alloc (by exact hb.size) (.cells #[.bool false, .int .i64 0, .int .i64 0, .int .i64 0] 33)
  have S4 := Lib.hid (S3.out.bel hB4)
  have N4 := Lib.hid (N3.out.bel hB4)
  have R4 := Lib.hid (R3.out.bel hB4)
  have X4 := Lib.hid (X3.out.bel hB4)
  clear hb hB4 S3 N3 R3 X3 KU
  unfold uV
  obtain ⟨n0, n1, n2, n3, n4, n5, n6, n7, n8, n9, -, -, -, -, -, -, -, -, -, -⟩ := N4.out
  obtain ⟨r0, r1, r2, r3, r4, r5, r6, r7, r8, r9, q0, q1, q2, q3, q4, q5, q6, q7, q8, q9⟩ := R4.out
  go_wp2_with fail
  refine (?_ : ∀ F : World, B10 F w.heap.size (.int .i64 1) (.int .i64 ta) (.string ⟨#[]⟩) (.int .i64 tn) (.int .i64 td) (.bool (uF 1)) (.int .i64 (uM 1)) (.int .i64 (uA 1)) (.int .i64 (uD 1)) (.slice none 0 0) → Sx w F b p cap qb ts En mb (k + 1) → bodyPost _ _ _ _ _ F) _ (R4.out.put _ _ _ _ _ _ _ _ _ _) ?_
  · intro F hF hS
    obtain ⟨y0, y1, y2, y3, y4, y5, y6, y7, y8, y9, -, -, -, -, -, -, -, -, -, -⟩ := hF
    refine bodyPost_ret (v := .agg #[.int .i64 1, .int .i64 ta, .string ⟨#[]⟩, .int .i64 tn, .int .i64 td, .bool (uF 1), .int .i64 (uM 1), .int .i64 (uA 1), .int .i64 (uD 1), .slice none 0 0]) (by simp [results, Tryz.results153, go_sem, y0, y1, y2, y3, y4, y5, y6, y7, y8, y9]) rfl (PostO.ok rfl ⟨⟨1, ta, ⟨#[]⟩, tn, td, uF 1, uM 1, uA 1, uD 1, none, 0, 0⟩, rfl, ?_⟩ hS)
    rw [HO.out]
    exact node_leaf F w.heap.size (offs ts En) 1 (ts.length - k) [] tn td 1
  · exact ((((((((((S4.out.other (Nat.le_refl _) 0 _).other (Nat.le_refl _) 1 _).other (Nat.le_refl _) 2 _).other (Nat.le_refl _) 3 _).other (Nat.le_refl _) 4 _).other (Nat.le_refl _) 5 _).other (Nat.le_refl _) 6 _).other (Nat.le_refl _) 7 _).other (Nat.le_refl _) 8 _).other (Nat.le_refl _) 9 _)
theorem B10.unit {w : World} {b : Nat} {x0 x1 x2 x3 x4 x5 x6 x7 x8 x9 : Value} (h : B10 w b x0 x1 x2 x3 x4 x5 x6 x7 x8 x9) (y5 y6 y7 y8 : Value) :
    B10 ((((w.setCell ⟨b, 5, none⟩ y5).setCell ⟨b, 6, none⟩ y6).setCell ⟨b, 7, none⟩ y7).setCell ⟨b, 8, none⟩ y8) b x0 x1 x2 x3 x4 y5 y6 y7 y8 x9 := by
  obtain ⟨c0, c1, c2, c3, c4, c5, c6, c7, c8, c9, f0, f1, f2, f3, f4, f5, f6, f7, f8, f9⟩ := h
  exact ⟨by simp [go_sem, c0], by simp [go_sem, c1], by simp [go_sem, c2], by simp [go_sem, c3], by simp [go_sem, c4], by simp [go_sem, c5], by simp [go_sem, c6], by simp [go_sem, c7], by simp [go_sem, c8], by simp [go_sem, c9], by simp [World.frozen?_setCell, f0], by simp [World.frozen?_setCell, f1], by simp [World.frozen?_setCell, f2], by simp [World.frozen?_setCell, f3], by simp [World.frozen?_setCell, f4], by simp [World.frozen?_setCell, f5], by simp [World.frozen?_setCell, f6], by simp [World.frozen?_setCell, f7], by simp [World.frozen?_setCell, f8], by simp [World.frozen?_setCell, f9]⟩
set_option maxRecDepth 100000 in
set_option maxHeartbeats 6000000 in
theorem num_unit (w : World) (h : Rd w b p cap qb ts En mb k) (hk : (pk ts En k).k = 2) (u : Nat) (hu : idx units (pk ts En (k + 1)).t = some u) (hu2 : u ≠ 2) :
    Calls Tryz.prog 153 #[.pointer (some ⟨b, 0, none⟩)] w fun e w' => PostO w b p cap qb ts En mb (vX w.heap.size (offs ts En)) (.ok (.mk 1 (ts.length - k) [] (pk ts En k).n (pk ts En k).d u []) (ts.drop (k + 1 + 1))) e w' := by
  have hf := fld_text
  have hk1 := succ_in h.kl h.tk.max
  have hl : k < ts.length := pk_lt' (En := En) (by rw [hk]; decide)
  have KP := Lib.hid (fun w h => peek_any (b := b) (cap := cap) (qb := qb) (En := En) (mb := mb) (k := k) (p := p) (ts := ts) w h)
  have KP2 := Lib.hid (fun w h => peek_any (b := b) (cap := cap) (qb := qb) (En := En) (mb := mb) (k := k + 1) (p := p) (ts := ts) w h)
  have S0 := Lib.hid ((Sx.start h).alloc (.cells zNode.toArray 36))
  have R0 := Lib.hid (B10.new w (.int .i64 0) (.int .i64 0) (.string ⟨#[]⟩) (.int .i64 0) (.int .i64 0) (.bool false) (.int .i64 0) (.int .i64 0) (.int .i64 0) (.slice none 0 0) 36)
  have HO : Hid ((pk ts En k).a = offs ts En (ts.length - k)) := pk_offs h.kl
  have NB : w.heap.size ≠ b := by have := h.lt; omega
  have KN := Lib.hid (fun w (h : Rd w b p cap qb ts En mb (k + 1)) => unit_any w h)
  rw [unitO_pk (En := En) h.ok, hu] at KN
  clear h
  generalize pk ts En k = t at *
  obtain ⟨tk, ta, tt, tn, td⟩ := t
  simp only at hk
  subst hk
  generalize pk ts En (k + 1) = t2 at *
  obtain ⟨uk, ua, ut, un, ud⟩ := t2
  have KU := Lib.hid (fun w => unitOf_any ut w)
  simp only at hu
  rw [hu] at KU
  clear hu
  unfold tokV at KP KP2
  unfold zNode at S0
  go_enter Tryz.func153, Tryz.ntmps153
  go_wp2_with fail
  refine (KP.out _ S0.out.rd).mono ?_
  rintro _ v ⟨rfl, hb⟩
  have S1 := Lib.hid ((S0.out.bel hb).alloc (tBox 2 ta tn td (bs tt)))
  have R1 := Lib.hid ((R0.out.bel hb).bel ((Below.refl _ _).alloc (Nat.le_refl _) (tBox 2 ta tn td (bs tt))))
  have X1 := Lib.hid (B5.new v (.int .i64 2) (.int .i64 ta) (.string (bs tt)) (.int .i64 tn) (.int .i64 td) 88)
  have NB1 : v.heap.size ≠ b := by have h1 := (S0.out.bel hb).kp.size; have h2 := S0.out.bl; omega
  have NB3 : v.heap.size + 1 ≠ b := by have h1 := (S0.out.bel hb).kp.size; have h2 := S0.out.bl; omega
  have NR : w.heap.size < v.heap.size := by have := World.block_lt_of_cell? _ _ (R0.out.bel hb).c0; exact this
  clear hb S0 R0 KP
  unfold tBox at S1 R1
  obtain ⟨x0, x1, x2, x3, x4, -, -, -, -, -⟩ := X1.out
  obtain ⟨-, c1, -, -, f1, -, -, -, -, -, -⟩ := S1.out.rd
  have S2 := Lib.hid ((S1.out.next hl).alloc (.cells #[.int .i64 1, .int .i64 ta, .string ⟨#[]⟩, .int .i64 tn, .int .i64 td, .bool false, .int .i64 0, .int .i64 0, .int .i64 0, .slice none 0 0] 36))
  have N2 := Lib.hid (B10.new ((v.alloc (.cells #[.int .i64 2, .int .i64 ta, .string (bs tt), .int .i64 tn, .int .i64 td] 88)).setCell ⟨b, 1, none⟩ (.int .i64 (k + 1 : Nat))) (.int .i64 1) (.int .i64 ta) (.string ⟨#[]⟩) (.int .i64 tn) (.int .i64 td) (.bool false) (.int .i64 0) (.int .i64 0) (.int .i64 0) (.slice none 0 0) 36)
  have R2 := Lib.hid ((R1.out.other NB 1 none (.int .i64 (k + 1 : Nat))).bel ((Below.refl _ _).alloc (Nat.le_refl _) (.cells #[.int .i64 1, .int .i64 ta, .string ⟨#[]⟩, .int .i64 tn, .int .i64 td, .bool false, .int .i64 0, .int .i64 0, .int .i64 0, .slice none 0 0] 36)))
  have X2 := Lib.hid ((X1.out.other NB1 1 none (.int .i64 (k + 1 : Nat))).bel ((Below.refl _ _).alloc (Nat.le_refl _) (.cells #[.int .i64 1, .int .i64 ta, .string ⟨#[]⟩, .int .i64 tn, .int .i64 td, .bool false, .int .i64 0, .int .i64 0, .int .i64 0, .slice none 0 0] 36)))
  rw [show ((v.alloc (.cells #[.int .i64 2, .int .i64 ta, .string (bs tt), .int .i64 tn, .int .i64 td] 88)).setCell ⟨b, 1, none⟩ (.int .i64 (k + 1 : Nat))).heap.size = v.heap.size + 1 by simp [World.setCell]] at N2
  go_wp2_with fail
  clear x0 x1 x2 x3 x4 c1 f1 S1 R1 X1
  change Calls _ _ _ (((v.alloc (.cells #[.int .i64 2, .int .i64 ta, .string (bs tt), .int .i64 tn, .int .i64 td] 88)).setCell ⟨b, 1, none⟩ (.int .i64 (k + 1 : Nat))).alloc (.cells #[.int .i64 1, .int .i64 ta, .string ⟨#[]⟩, .int .i64 tn, .int .i64 td, .bool false, .int .i64 0, .int .i64 0, .int .i64 0, .slice none 0 0] 36)) _
  generalize (((v.alloc (.cells #[.int .i64 2, .int .i64 ta, .string (bs tt), .int .i64 tn, .int .i64 td] 88)).setCell ⟨b, 1, none⟩ (.int .i64 (k + 1 : Nat))).alloc (.cells #[.int .i64 1, .int .i64 ta, .string ⟨#[]⟩, .int .i64 tn, .int .i64 td, .bool false, .int .i64 0, .int .i64 0, .int .i64 0, .slice none 0 0] 36)) = V at *
  refine (KP2.out _ S2.out.rd).mono ?_
  rintro _ v3 ⟨rfl, hb⟩
  have S3 := Lib.hid (S2.out.bel hb)
  have N3 := Lib.hid (N2.out.bel hb)
  have R3 := Lib.hid (R2.out.bel hb)
  have X3 := Lib.hid (X2.out.bel hb)
  clear hb S2 N2 R2 X2 KP2
  go_wp2_with fail
  refine (KU.out _).mono ?_
  rintro _ v4 ⟨rfl, hb⟩
  have hmu : (uM u == 1) = false := by simp [uM, hu2]
  have hB4 := hb.alloc (by exact hb.size) (.cells #[.bool (uF u), .int .i64 (uM u), .int .i64 (uA u), .int .i64 (uD u)] 33)
  have S4 := Lib.hid (S3.out.bel hB4)
  have N4 := Lib.hid (N3.out.bel hB4)
  have R4 := Lib.hid (R3.out.bel hB4)
  have X4 := Lib.hid (X3.out.bel hB4)
  have NRN : w.heap.size ≠ v.heap.size + 1 := by omega
  clear hb hB4 S3 N3 R3 X3 KU
  unfold uV
  go_wp2_with fail
  refine (KN.out _ S4.out.rd).mono ?_
  rintro _ v5 ⟨_, k', rfl, rfl, hkp, hrd, hq⟩
  have S5 := Lib.hid (S4.out.call hkp hrd)
  have N5 := Lib.hid (N4.out.call hkp NB3)
  have R5 := Lib.hid (R4.out.call hkp NB)
  have X5 := Lib.hid (X4.out.call hkp NB1)
  clear hkp hrd S4 N4 R4 X4 KN
  unfold uV
  obtain ⟨n0, n1, n2, n3, n4, n5, n6, n7, n8, n9, m0, m1, m2, m3, m4, m5, m6, m7, m8, m9⟩ := N5.out
  obtain ⟨r0, r1, r2, r3, r4, r5, r6, r7, r8, r9, q0, q1, q2, q3, q4, q5, q6, q7, q8, q9⟩ := R5.out
  go_wp2_with fail
  refine (?_ : ∀ F : World, B10 F w.heap.size (.int .i64 1) (.int .i64 ta) (.string ⟨#[]⟩) (.int .i64 tn) (.int .i64 td) (.bool (uF u)) (.int .i64 (uM u)) (.int .i64 (uA u)) (.int .i64 (uD u)) (.slice none 0 0) → Sx w F b p cap qb ts En mb k' → bodyPost _ _ _ _ _ F) _ ((((((R5.out.other NRN 5 none _).other NRN 6 none _).other NRN 7 none _).other NRN 8 none _)).put _ _ _ _ _ _ _ _ _ _) ?_
  · intro F hF hS
    obtain ⟨y0, y1, y2, y3, y4, y5, y6, y7, y8, y9, -, -, -, -, -, -, -, -, -, -⟩ := hF
    refine bodyPost_ret (v := .agg #[.int .i64 1, .int .i64 ta, .string ⟨#[]⟩, .int .i64 tn, .int .i64 td, .bool (uF u), .int .i64 (uM u), .int .i64 (uA u), .int .i64 (uD u), .slice none 0 0]) (by simp [results, Tryz.results153, go_sem, y0, y1, y2, y3, y4, y5, y6, y7, y8, y9]) rfl (PostO.ok (by rw [hq]) ⟨⟨1, ta, ⟨#[]⟩, tn, td, uF u, uM u, uA u, uD u, none, 0, 0⟩, rfl, ?_⟩ hS)
    rw [HO.out]
    exact node_leaf F w.heap.size (offs ts En) 1 (ts.length - k) [] (tn) (td) u
  · exact ((((((((((((((S5.out.other (by omega) 5 _).other (by omega) 6 _).other (by omega) 7 _).other (by omega) 8 _).other (Nat.le_refl _) 0 _).other (Nat.le_refl _) 1 _).other (Nat.le_refl _) 2 _).other (Nat.le_refl _) 3 _).other (Nat.le_refl _) 4 _).other (Nat.le_refl _) 5 _).other (Nat.le_refl _) 6 _).other (Nat.le_refl _) 7 _).other (Nat.le_refl _) 8 _).other (Nat.le_refl _) 9 _)
set_option maxRecDepth 100000 in
set_option maxHeartbeats 6000000 in
theorem num_cents (w : World) (h : Rd w b p cap qb ts En mb k) (hk : (pk ts En k).k = 2) (hu : idx units (pk ts En (k + 1)).t = some 2) (hz : (M0 (pk ts En k).n (pk ts En k).d).2.2 = 0) :
    Calls Tryz.prog 153 #[.pointer (some ⟨b, 0, none⟩)] w fun e w' => PostO w b p cap qb ts En mb (vX w.heap.size (offs ts En)) (.ok (.mk 1 (ts.length - k) [] (M0 (pk ts En k).n (pk ts En k).d).1 (M0 (pk ts En k).n (pk ts En k).d).2.1 2 []) (ts.drop (k + 1 + 1))) e w' := by
  have hf := fld_text
  have hk1 := succ_in h.kl h.tk.max
  have hl : k < ts.length := pk_lt' (En := En) (by rw [hk]; decide)
  have KP := Lib.hid (fun w h => peek_any (b := b) (cap := cap) (qb := qb) (En := En) (mb := mb) (k := k) (p := p) (ts := ts) w h)
  have KP2 := Lib.hid (fun w h => peek_any (b := b) (cap := cap) (qb := qb) (En := En) (mb := mb) (k := k + 1) (p := p) (ts := ts) w h)
  have S0 := Lib.hid ((Sx.start h).alloc (.cells zNode.toArray 36))
  have R0 := Lib.hid (B10.new w (.int .i64 0) (.int .i64 0) (.string ⟨#[]⟩) (.int .i64 0) (.int .i64 0) (.bool false) (.int .i64 0) (.int .i64 0) (.int .i64 0) (.slice none 0 0) 36)
  have HO : Hid ((pk ts En k).a = offs ts En (ts.length - k)) := pk_offs h.kl
  have NB : w.heap.size ≠ b := by have := h.lt; omega
  have KN := Lib.hid (fun w (h : Rd w b p cap qb ts En mb (k + 1)) => unit_any w h)
  rw [unitO_pk (En := En) h.ok, hu] at KN
  have HT : -9223372036854775808 ≤ (pk ts En k).n ∧ (pk ts En k).n ≤ 9223372036854775807 ∧ -9223372036854775808 ≤ (pk ts En k).d ∧ (pk ts En k).d ≤ 9223372036854775807 := by rw [pk_in hl]; exact (h.ok _ (List.getElem_mem hl)).2.2.2
  clear h
  generalize pk ts En k = t at *
  obtain ⟨tk, ta, tt, tn, td⟩ := t
  simp only at hk hz HT
  subst hk
  generalize pk ts En (k + 1) = t2 at *
  obtain ⟨uk, ua, ut, un, ud⟩ := t2
  have KU := Lib.hid (fun w => unitOf_any ut w)
  simp only at hu
  rw [hu] at KU
  clear hu
  unfold tokV at KP KP2
  unfold zNode at S0
  go_enter Tryz.func153, Tryz.ntmps153
  go_wp2_with fail
  refine (KP.out _ S0.out.rd).mono ?_
  rintro _ v ⟨rfl, hb⟩
  have S1 := Lib.hid ((S0.out.bel hb).alloc (tBox 2 ta tn td (bs tt)))
  have R1 := Lib.hid ((R0.out.bel hb).bel ((Below.refl _ _).alloc (Nat.le_refl _) (tBox 2 ta tn td (bs tt))))
  have X1 := Lib.hid (B5.new v (.int .i64 2) (.int .i64 ta) (.string (bs tt)) (.int .i64 tn) (.int .i64 td) 88)
  have NB1 : v.heap.size ≠ b := by have h1 := (S0.out.bel hb).kp.size; have h2 := S0.out.bl; omega
  have NB3 : v.heap.size + 1 ≠ b := by have h1 := (S0.out.bel hb).kp.size; have h2 := S0.out.bl; omega
  have NR : w.heap.size < v.heap.size := by have := World.block_lt_of_cell? _ _ (R0.out.bel hb).c0; exact this
  clear hb S0 R0 KP
  unfold tBox at S1 R1
  obtain ⟨x0, x1, x2, x3, x4, -, -, -, -, -⟩ := X1.out
  obtain ⟨-, c1, -, -, f1, -, -, -, -, -, -⟩ := S1.out.rd
  have S2 := Lib.hid ((S1.out.next hl).alloc (.cells #[.int .i64 1, .int .i64 ta, .string ⟨#[]⟩, .int .i64 tn, .int .i64 td, .bool false, .int .i64 0, .int .i64 0, .int .i64 0, .slice none 0 0] 36))
  have N2 := Lib.hid (B10.new ((v.alloc (.cells #[.int .i64 2, .int .i64 ta, .string (bs tt), .int .i64 tn, .int .i64 td] 88)).setCell ⟨b, 1, none⟩ (.int .i64 (k + 1 : Nat))) (.int .i64 1) (.int .i64 ta) (.string ⟨#[]⟩) (.int .i64 tn) (.int .i64 td) (.bool false) (.int .i64 0) (.int .i64 0) (.int .i64 0) (.slice none 0 0) 36)
  have R2 := Lib.hid ((R1.out.other NB 1 none (.int .i64 (k + 1 : Nat))).bel ((Below.refl _ _).alloc (Nat.le_refl _) (.cells #[.int .i64 1, .int .i64 ta, .string ⟨#[]⟩, .int .i64 tn, .int .i64 td, .bool false, .int .i64 0, .int .i64 0, .int .i64 0, .slice none 0 0] 36)))
  have X2 := Lib.hid ((X1.out.other NB1 1 none (.int .i64 (k + 1 : Nat))).bel ((Below.refl _ _).alloc (Nat.le_refl _) (.cells #[.int .i64 1, .int .i64 ta, .string ⟨#[]⟩, .int .i64 tn, .int .i64 td, .bool false, .int .i64 0, .int .i64 0, .int .i64 0, .slice none 0 0] 36)))
  rw [show ((v.alloc (.cells #[.int .i64 2, .int .i64 ta, .string (bs tt), .int .i64 tn, .int .i64 td] 88)).setCell ⟨b, 1, none⟩ (.int .i64 (k + 1 : Nat))).heap.size = v.heap.size + 1 by simp [World.setCell]] at N2
  go_wp2_with fail
  clear x0 x1 x2 x3 x4 c1 f1 S1 R1 X1
  change Calls _ _ _ (((v.alloc (.cells #[.int .i64 2, .int .i64 ta, .string (bs tt), .int .i64 tn, .int .i64 td] 88)).setCell ⟨b, 1, none⟩ (.int .i64 (k + 1 : Nat))).alloc (.cells #[.int .i64 1, .int .i64 ta, .string ⟨#[]⟩, .int .i64 tn, .int .i64 td, .bool false, .int .i64 0, .int .i64 0, .int .i64 0, .slice none 0 0] 36)) _
  generalize (((v.alloc (.cells #[.int .i64 2, .int .i64 ta, .string (bs tt), .int .i64 tn, .int .i64 td] 88)).setCell ⟨b, 1, none⟩ (.int .i64 (k + 1 : Nat))).alloc (.cells #[.int .i64 1, .int .i64 ta, .string ⟨#[]⟩, .int .i64 tn, .int .i64 td, .bool false, .int .i64 0, .int .i64 0, .int .i64 0, .slice none 0 0] 36)) = V at *
  refine (KP2.out _ S2.out.rd).mono ?_
  rintro _ v3 ⟨rfl, hb⟩
  have S3 := Lib.hid (S2.out.bel hb)
  have N3 := Lib.hid (N2.out.bel hb)
  have R3 := Lib.hid (R2.out.bel hb)
  have X3 := Lib.hid (X2.out.bel hb)
  clear hb S2 N2 R2 X2 KP2
  go_wp2_with fail
  refine (KU.out _).mono ?_
  rintro _ v4 ⟨rfl, hb⟩
  have KC := Lib.hid (fun w => cents_ok 2 ta tn td (bs tt) w HT.1 HT.2.1 HT.2.2.1 HT.2.2.2 hz)
  clear hz HT
  have hmu : (uM 2 == 1) = true := rfl
  have hB4 := hb.alloc (by exact hb.size) (.cells #[.bool (uF 2), .int .i64 (uM 2), .int .i64 (uA 2), .int .i64 (uD 2)] 33)
  have S4 := Lib.hid (S3.out.bel hB4)
  have N4 := Lib.hid (N3.out.bel hB4)
  have R4 := Lib.hid (R3.out.bel hB4)
  have X4 := Lib.hid (X3.out.bel hB4)
  have NRN : w.heap.size ≠ v.heap.size + 1 := by omega
  clear hb hB4 S3 N3 R3 X3 KU
  unfold uV
  go_wp2_with fail
  refine (KN.out _ S4.out.rd).mono ?_
  rintro _ v5 ⟨_, k', rfl, rfl, hkp, hrd, hq⟩
  have S5 := Lib.hid (S4.out.call hkp hrd)
  have N5 := Lib.hid (N4.out.call hkp NB3)
  have R5 := Lib.hid (R4.out.call hkp NB)
  have X5 := Lib.hid (X4.out.call hkp NB1)
  clear hkp hrd S4 N4 R4 X4 KN
  unfold uV
  obtain ⟨n0, n1, n2, n3, n4, n5, n6, n7, n8, n9, m0, m1, m2, m3, m4, m5, m6, m7, m8, m9⟩ := N5.out
  obtain ⟨r0, r1, r2, r3, r4, r5, r6, r7, r8, r9, q0, q1, q2, q3, q4, q5, q6, q7, q8, q9⟩ := R5.out
  obtain ⟨x0, x1, x2, x3, x4, -, -, -, -, -⟩ := X5.out
  have NXN : v.heap.size ≠ v.heap.size + 1 := by omega
  go_wp2_with fail
  have S6 : Hid (Sx w ((((v5.setCell ⟨v.heap.size + 1, 5, none⟩ (.bool (uF 2))).setCell ⟨v.heap.size + 1, 6, none⟩ (.int .i64 (uM 2))).setCell ⟨v.heap.size + 1, 7, none⟩ (.int .i64 (uA 2))).setCell ⟨v.heap.size + 1, 8, none⟩ (.int .i64 (uD 2))) b p cap qb ts En mb k') := ((((S5.out.other (by omega) 5 _).other (by omega) 6 _).other (by omega) 7 _).other (by omega) 8 _)
  have N6 := Lib.hid (N5.out.unit (.bool (uF 2)) (.int .i64 (uM 2)) (.int .i64 (uA 2)) (.int .i64 (uD 2)))
  have R6 : Hid (B10 ((((v5.setCell ⟨v.heap.size + 1, 5, none⟩ (.bool (uF 2))).setCell ⟨v.heap.size + 1, 6, none⟩ (.int .i64 (uM 2))).setCell ⟨v.heap.size + 1, 7, none⟩ (.int .i64 (uA 2))).setCell ⟨v.heap.size + 1, 8, none⟩ (.int .i64 (uD 2))) w.heap.size (.int .i64 0) (.int .i64 0) (.string ⟨#[]⟩) (.int .i64 0) (.int .i64 0) (.bool false) (.int .i64 0) (.int .i64 0) (.int .i64 0) (.slice none 0 0)) := ((((R5.out.other NRN 5 none _).other NRN 6 none _).other NRN 7 none _).other NRN 8 none _)
  clear n0 n1 n2 n3 n4 n5 n6 n7 n8 n9 m0 m1 m2 m3 m4 m5 m6 m7 m8 m9 r0 r1 r2 r3 r4 r5 r6 r7 r8 r9 q0 q1 q2 q3 q4 q5 q6 q7 q8 q9 x0 x1 x2 x3 x4 S5 N5 R5 X5
  generalize ((((v5.setCell ⟨v.heap.size + 1, 5, none⟩ (.bool (uF 2))).setCell ⟨v.heap.size + 1, 6, none⟩ (.int .i64 (uM 2))).setCell ⟨v.heap.size + 1, 7, none⟩ (.int .i64 (uA 2))).setCell ⟨v.heap.size + 1, 8, none⟩ (.int .i64 (uD 2))) = V6 at *
  refine (KC.out _).mono ?_
  rintro _ v7 ⟨rfl, hb⟩
  have S7 := Lib.hid (S6.out.bel hb)
  have N7 := Lib.hid (N6.out.bel hb)
  have R7 := Lib.hid (R6.out.bel hb)
  clear hb S6 N6 R6 KC
  obtain ⟨n0, n1, n2, n3, n4, n5, n6, n7, n8, n9, m0, m1, m2, m3, m4, m5, m6, m7, m8, m9⟩ := N7.out
  obtain ⟨r0, r1, r2, r3, r4, r5, r6, r7, r8, r9, q0, q1, q2, q3, q4, q5, q6, q7, q8, q9⟩ := R7.out
  go_wp2_with fail
  refine (?_ : ∀ F : World, B10 F w.heap.size (.int .i64 1) (.int .i64 ta) (.string ⟨#[]⟩) (.int .i64 (M0 tn td).1) (.int .i64 (M0 tn td).2.1) (.bool (uF 2)) (.int .i64 (uM 2)) (.int .i64 (uA 2)) (.int .i64 (uD 2)) (.slice none 0 0) → Sx w F b p cap qb ts En mb k' → bodyPost _ _ _ _ _ F) _ (((R7.out.other NRN 3 none _).other NRN 4 none _).put _ _ _ _ _ _ _ _ _ _) ?_
  · intro F hF hS
    obtain ⟨y0, y1, y2, y3, y4, y5, y6, y7, y8, y9, -, -, -, -, -, -, -, -, -, -⟩ := hF
    refine bodyPost_ret (v := .agg #[.int .i64 1, .int .i64 ta, .string ⟨#[]⟩, .int .i64 (M0 tn td).1, .int .i64 (M0 tn td).2.1, .bool (uF 2), .int .i64 (uM 2), .int .i64 (uA 2), .int .i64 (uD 2), .slice none 0 0]) (by simp [results, Tryz.results153, go_sem, y0, y1, y2, y3, y4, y5, y6, y7, y8, y9]) rfl (PostO.ok (by rw [hq]) ⟨⟨1, ta, ⟨#[]⟩, (M0 tn td).1, (M0 tn td).2.1, uF 2, uM 2, uA 2, uD 2, none, 0, 0⟩, rfl, ?_⟩ hS)
    rw [HO.out]
    exact node_leaf F w.heap.size (offs ts En) 1 (ts.length - k) [] ((M0 tn td).1) ((M0 tn td).2.1) 2
  · exact ((((((((((((S7.out.other (by omega) 3 _).other (by omega) 4 _).other (Nat.le_refl _) 0 _).other (Nat.le_refl _) 1 _).other (Nat.le_refl _) 2 _).other (Nat.le_refl _) 3 _).other (Nat.le_refl _) 4 _).other (Nat.le_refl _) 5 _).other (Nat.le_refl _) 6 _).other (Nat.le_refl _) 7 _).other (Nat.le_refl _) 8 _).other (Nat.le_refl _) 9 _)
set_option maxRecDepth 100000 in
set_option maxHeartbeats 6000000 in
theorem num_centse (w : World) (h : Rd w b p cap qb ts En mb k) (hk : (pk ts En k).k = 2) (hu : idx units (pk ts En (k + 1)).t = some 2) (hz : (M0 (pk ts En k).n (pk ts En k).d).2.2 ≠ 0) :
    Calls Tryz.prog 153 #[.pointer (some ⟨b, 0, none⟩)] w fun e w' => PostO w b p cap qb ts En mb (vX w.heap.size (offs ts En)) (.er 3 (ts.length - k) (ts.length - (k + 1 + 1))) e w' := by
  have hf := fld_text
  have hk1 := succ_in h.kl h.tk.max
  have hl : k < ts.length := pk_lt' (En := En) (by rw [hk]; decide)
  have KP := Lib.hid (fun w h => peek_any (b := b) (cap := cap) (qb := qb) (En := En) (mb := mb) (k := k) (p := p) (ts := ts) w h)
  have KP2 := Lib.hid (fun w h => peek_any (b := b) (cap := cap) (qb := qb) (En := En) (mb := mb) (k := k + 1) (p := p) (ts := ts) w h)
  have S0 := Lib.hid ((Sx.start h).alloc (.cells zNode.toArray 36))
  have R0 := Lib.hid (B10.new w (.int .i64 0) (.int .i64 0) (.string ⟨#[]⟩) (.int .i64 0) (.int .i64 0) (.bool false) (.int .i64 0) (.int .i64 0) (.int .i64 0) (.slice none 0 0) 36)
  have HO : Hid ((pk ts En k).a = offs ts En (ts.length - k)) := pk_offs h.kl
  have NB : w.heap.size ≠ b := by have := h.lt; omega
  have KN := Lib.hid (fun w (h : Rd w b p cap qb ts En mb (k + 1)) => unit_any w h)
  rw [unitO_pk (En := En) h.ok, hu] at KN
  have HT : -9223372036854775808 ≤ (pk ts En k).n ∧ (pk ts En k).n ≤ 9223372036854775807 ∧ -9223372036854775808 ≤ (pk ts En k).d ∧ (pk ts En k).d ≤ 9223372036854775807 := by rw [pk_in hl]; exact (h.ok _ (List.getElem_mem hl)).2.2.2
  clear h
  generalize pk ts En k = t at *
  obtain ⟨tk, ta, tt, tn, td⟩ := t
  simp only at hk hz HT
  subst hk
  generalize pk ts En (k + 1) = t2 at *
  obtain ⟨uk, ua, ut, un, ud⟩ := t2
  have KU := Lib.hid (fun w => unitOf_any ut w)
  simp only at hu
  rw [hu] at KU
  clear hu
  unfold tokV at KP KP2
  unfold zNode at S0
  go_enter Tryz.func153, Tryz.ntmps153
  go_wp2_with fail
  refine (KP.out _ S0.out.rd).mono ?_
  rintro _ v ⟨rfl, hb⟩
  have S1 := Lib.hid ((S0.out.bel hb).alloc (tBox 2 ta tn td (bs tt)))
  have R1 := Lib.hid ((R0.out.bel hb).bel ((Below.refl _ _).alloc (Nat.le_refl _) (tBox 2 ta tn td (bs tt))))
  have X1 := Lib.hid (B5.new v (.int .i64 2) (.int .i64 ta) (.string (bs tt)) (.int .i64 tn) (.int .i64 td) 88)
  have NB1 : v.heap.size ≠ b := by have h1 := (S0.out.bel hb).kp.size; have h2 := S0.out.bl; omega
  have NB3 : v.heap.size + 1 ≠ b := by have h1 := (S0.out.bel hb).kp.size; have h2 := S0.out.bl; omega
  have NR : w.heap.size < v.heap.size := by have := World.block_lt_of_cell? _ _ (R0.out.bel hb).c0; exact this
  clear hb S0 R0 KP
  unfold tBox at S1 R1
  obtain ⟨x0, x1, x2, x3, x4, -, -, -, -, -⟩ := X1.out
  obtain ⟨-, c1, -, -, f1, -, -, -, -, -, -⟩ := S1.out.rd
  have S2 := Lib.hid ((S1.out.next hl).alloc (.cells #[.int .i64 1, .int .i64 ta, .string ⟨#[]⟩, .int .i64 tn, .int .i64 td, .bool false, .int .i64 0, .int .i64 0, .int .i64 0, .slice none 0 0] 36))
  have N2 := Lib.hid (B10.new ((v.alloc (.cells #[.int .i64 2, .int .i64 ta, .string (bs tt), .int .i64 tn, .int .i64 td] 88)).setCell ⟨b, 1, none⟩ (.int .i64 (k + 1 : Nat))) (.int .i64 1) (.int .i64 ta) (.string ⟨#[]⟩) (.int .i64 tn) (.int .i64 td) (.bool false) (.int .i64 0) (.int .i64 0) (.int .i64 0) (.slice none 0 0) 36)
  have R2 := Lib.hid ((R1.out.other NB 1 none (.int .i64 (k + 1 : Nat))).bel ((Below.refl _ _).alloc (Nat.le_refl _) (.cells #[.int .i64 1, .int .i64 ta, .string ⟨#[]⟩, .int .i64 tn, .int .i64 td, .bool false, .int .i64 0, .int .i64 0, .int .i64 0, .slice none 0 0] 36)))
  have X2 := Lib.hid ((X1.out.other NB1 1 none (.int .i64 (k + 1 : Nat))).bel ((Below.refl _ _).alloc (Nat.le_refl _) (.cells #[.int .i64 1, .int .i64 ta, .string ⟨#[]⟩, .int .i64 tn, .int .i64 td, .bool false, .int .i64 0, .int .i64 0, .int .i64 0, .slice none 0 0] 36)))
  rw [show ((v.alloc (.cells #[.int .i64 2, .int .i64 ta, .string (bs tt), .int .i64 tn, .int .i64 td] 88)).setCell ⟨b, 1, none⟩ (.int .i64 (k + 1 : Nat))).heap.size = v.heap.size + 1 by simp [World.setCell]] at N2
  go_wp2_with fail
  clear x0 x1 x2 x3 x4 c1 f1 S1 R1 X1
  change Calls _ _ _ (((v.alloc (.cells #[.int .i64 2, .int .i64 ta, .string (bs tt), .int .i64 tn, .int .i64 td] 88)).setCell ⟨b, 1, none⟩ (.int .i64 (k + 1 : Nat))).alloc (.cells #[.int .i64 1, .int .i64 ta, .string ⟨#[]⟩, .int .i64 tn, .int .i64 td, .bool false, .int .i64 0, .int .i64 0, .int .i64 0, .slice none 0 0] 36)) _
  generalize (((v.alloc (.cells #[.int .i64 2, .int .i64 ta, .string (bs tt), .int .i64 tn, .int .i64 td] 88)).setCell ⟨b, 1, none⟩ (.int .i64 (k + 1 : Nat))).alloc (.cells #[.int .i64 1, .int .i64 ta, .string ⟨#[]⟩, .int .i64 tn, .int .i64 td, .bool false, .int .i64 0, .int .i64 0, .int .i64 0, .slice none 0 0] 36)) = V at *
  refine (KP2.out _ S2.out.rd).mono ?_
  rintro _ v3 ⟨rfl, hb⟩
  have S3 := Lib.hid (S2.out.bel hb)
  have N3 := Lib.hid (N2.out.bel hb)
  have R3 := Lib.hid (R2.out.bel hb)
  have X3 := Lib.hid (X2.out.bel hb)
  clear hb S2 N2 R2 X2 KP2
  go_wp2_with fail
  refine (KU.out _).mono ?_
  rintro _ v4 ⟨rfl, hb⟩
  have KC := Lib.hid (fun w => cents_er 2 ta tn td (bs tt) w HT.1 HT.2.1 HT.2.2.1 HT.2.2.2 hz)
  clear hz HT
  have hmu : (uM 2 == 1) = true := rfl
  have hB4 := hb.alloc (by exact hb.size) (.cells #[.bool (uF 2), .int .i64 (uM 2), .int .i64 (uA 2), .int .i64 (uD 2)] 33)
  have S4 := Lib.hid (S3.out.bel hB4)
  have N4 := Lib.hid (N3.out.bel hB4)
  have R4 := Lib.hid (R3.out.bel hB4)
  have X4 := Lib.hid (X3.out.bel hB4)
  have NRN : w.heap.size ≠ v.heap.size + 1 := by omega
  clear hb hB4 S3 N3 R3 X3 KU
  unfold uV
  go_wp2_with fail
  refine (KN.out _ S4.out.rd).mono ?_
  rintro _ v5 ⟨_, k', rfl, rfl, hkp, hrd, hq⟩
  have S5 := Lib.hid (S4.out.call hkp hrd)
  have N5 := Lib.hid (N4.out.call hkp NB3)
  have R5 := Lib.hid (R4.out.call hkp NB)
  have X5 := Lib.hid (X4.out.call hkp NB1)
  clear hkp hrd S4 N4 R4 X4 KN
  unfold uV
  obtain ⟨n0, n1, n2, n3, n4, n5, n6, n7, n8, n9, m0, m1, m2, m3, m4, m5, m6, m7, m8, m9⟩ := N5.out
  obtain ⟨r0, r1, r2, r3, r4, r5, r6, r7, r8, r9, q0, q1, q2, q3, q4, q5, q6, q7, q8, q9⟩ := R5.out
  obtain ⟨x0, x1, x2, x3, x4, -, -, -, -, -⟩ := X5.out
  have NXN : v.heap.size ≠ v.heap.size + 1 := by omega
  go_wp2_with fail
  have S6 : Hid (Sx w ((((v5.setCell ⟨v.heap.size + 1, 5, none⟩ (.bool (uF 2))).setCell ⟨v.heap.size + 1, 6, none⟩ (.int .i64 (uM 2))).setCell ⟨v.heap.size + 1, 7, none⟩ (.int .i64 (uA 2))).setCell ⟨v.heap.size + 1, 8, none⟩ (.int .i64 (uD 2))) b p cap qb ts En mb k') := ((((S5.out.other (by omega) 5 _).other (by omega) 6 _).other (by omega) 7 _).other (by omega) 8 _)
  refine (KC.out _).mono ?_
  rintro _ v7 ⟨rfl, hb⟩
  have S7 := Lib.hid (S6.out.bel hb)
  go_wp2_with fail
  refine bodyPost_panic rfl (PostO.er rfl HO.out ?_ S7.out)
  have := congrArg List.length hq
  simp only [List.length_drop] at this
  omega
end
end Go.Proofs.YtedbpjcglnkjmaaGreatDoor
namespace Go.Proofs.YtedbpjcglnkjmaaGreatDoor
open Go.RowKit Lx Pa

section
variable {ts : List Tok} {En k : Nat} {M : Int → Int → Int × Int × Int} {ex : List Tok → Out Tree}
theorem idx_none_end : idx [kMin, kMax] [] = none := by decide
theorem factor_pk (hk : TokOk ts) : factor M ex (ts.drop k) =
    if (pk ts En k).k = 2 then numO M (pk ts En k) (ts.drop (k + 1))
    else if isW sLp (ts.drop k) = true then (ex (ts.drop (k + 1))).bind fun n r => (need sRp r).bind fun _ r => .ok n r
    else if isW kTrue (ts.drop k) = true then .ok (.mk 17 (ts.length - k) [] 0 0 1 []) (ts.drop (k + 1))
    else match idx [kMin, kMax] (pk ts En k).t with
      | some o => (need sLp (ts.drop (k + 1))).bind fun _ r1 => (ex r1).bind fun a r2 => (need sCm r2).bind fun _ r3 => (ex r3).bind fun b r4 => (need sRp r4).bind fun _ r5 => .ok (.mk (7 + o) (ts.length - k) [] 0 0 1 [a, b]) r5
      | none => if isA (ts.drop k) = true then .ok (.mk 2 (ts.length - k) (pk ts En k).t 0 0 1 []) (ts.drop (k + 1)) else bad (ts.drop k) := by
  rcases Nat.lt_or_ge k ts.length with z | z
  · have hw := which_pk (En := En) (k := k) hk [kMin, kMax] 0 (by decide)
    have hL : ts.length - k = (ts.drop (k + 1)).length + 1 := by rw [List.length_drop]; omega
    have h1 : (pk ts En k).k = 1 → (pk ts En k).t ≠ sLp := fun e => by
      have := ((hk _ (List.getElem_mem z)).2.2.1 (by rw [← pk_in (En := En) z]; exact e)).2
      rw [pk_in z]; exact this
    rw [hL]
    rw [pk_cons (En := En) z] at hw ⊢
    generalize pk ts En k = t at *
    generalize ts.drop (k + 1) = r at *
    unfold factor
    simp only
    by_cases h2 : t.k = 2
    · rw [if_pos h2, if_pos h2]; rfl
    rw [if_neg h2, if_neg h2]
    by_cases hA : isA (t :: r) = true
    · rw [if_pos hA]
      have hA' := hA
      unfold isA at hA'
      simp only [Bool.and_eq_true, decide_eq_true_eq, Bool.not_eq_true'] at hA'
      obtain ⟨⟨a1, a2⟩, a3⟩ := hA'
      have e1 : isW sLp (t :: r) = false := by
        show isT sLp t = false
        unfold isT
        have : (t.t == sLp) = false := by simpa using h1 a1
        rw [this, Bool.and_false]
      have hres : ∀ s ∈ reserved, t.t ≠ s := fun s hs e => by
        rw [e] at a2
        have : reserved.contains s = true := by simpa using hs
        rw [this] at a2; cases a2
      have e2 : isW kTrue (t :: r) = false := by
        show isT kTrue t = false
        unfold isT
        have : (t.t == kTrue) = false := by simpa using hres kTrue (by decide)
        rw [this, Bool.and_false]
      have e3 : idx [kMin, kMax] t.t = none := by
        unfold idx
        have q1 : (kMin == t.t) = false := by simpa using Ne.symm (hres kMin (by decide))
        have q2 : (kMax == t.t) = false := by simpa using Ne.symm (hres kMax (by decide))
        simp [List.findIdx?_cons, q1, q2]
      rw [e1, e2, e3, if_neg (by simp), if_neg (by simp), if_pos hA]
    · rw [if_neg hA]
      by_cases hp : isT sLp t = true
      · have hn : isT kTrue t = false := by
          unfold isT at hp ⊢
          rw [Bool.and_eq_true, beq_iff_eq] at hp
          rw [hp.2]
          have : (sLp == kTrue) = false := by decide
          rw [this, Bool.and_false]
        rw [hn, if_neg (by simp), if_pos hp, if_pos (show isW sLp (t :: r) = true from hp)]
      · rw [if_neg (show ¬ isW sLp (t :: r) = true from hp)]
        by_cases ht : isT kTrue t = true
        · rw [if_pos ht, if_pos (show isW kTrue (t :: r) = true from ht)]
        · rw [if_neg ht, if_neg (show ¬ isW kTrue (t :: r) = true from ht), if_neg hp]
          unfold which
          rw [hw]
          cases idx [kMin, kMax] t.t with
          | none => simp only [Option.map_none]; rw [if_neg hA]
          | some o => rfl
  · rw [List.drop_eq_nil_of_le z, pk_end z, List.drop_eq_nil_of_le (by omega)]
    simp only [idx_none_end]
    rfl
end
/-- The number of a level in the map of operators. -/
def lv : Nat → Int
  | 0 => 1
  | 1 => 2
  | 3 => 3
  | 4 => 4
  | _ => 5
theorem idx_no {l : List (List UInt8)} {x : List UInt8} (h : x ∉ l) : idx l x = none := by
  unfold idx
  rw [List.findIdx?_eq_none_iff]
  intro y hy
  have : y ≠ x := fun e => h (e ▸ hy)
  simpa using this
theorem look_no {x : List UInt8} (h : x ∉ opTab.map (·.1)) : opLook x = none := by
  unfold opLook
  have : opTab.find? (fun e => e.1 == x) = none := by
    rw [List.find?_eq_none]
    intro e he
    have : e.1 ≠ x := fun q => h (by rw [← q]; exact List.mem_map_of_mem he)
    simpa using this
  rw [this]; rfl
theorem look_words : opTab.map (·.1) = [kOr, kAnd, sEq, sNe, sLt, sLe, sGt, sGe, sAdd, sSub, sMul, sDiv, kMin, kMax] := rfl
/-- The operators of a level, as the map has them. -/
theorem opAt_six (x : List UInt8) : opAt 6 x = (idx [kMin, kMax] x).map fun i => (((7 + i : Nat) : Int), false) := by
  by_cases h : x ∈ opTab.map (·.1)
  · rw [look_words] at h
    simp only [List.mem_cons, List.not_mem_nil, or_false] at h
    rcases h with rfl | rfl | rfl | rfl | rfl | rfl | rfl | rfl | rfl | rfl | rfl | rfl | rfl | rfl <;> decide
  · have h2 : x ∉ [kMin, kMax] := fun e => h (by rw [look_words]; simp only [List.mem_cons, List.not_mem_nil, or_false] at e ⊢; rcases e with rfl | rfl <;> simp)
    unfold opAt
    rw [look_no h, idx_no h2]; rfl
theorem opAt_lv (l : Nat) (hl : l < 6 ∧ l ≠ 2) (x : List UInt8) : opAt (lv l) x = (idx (signs l) x).map fun i => ((ops l).getD i 0, decide (l = 3) && decide (3 < i)) := by
  obtain ⟨h6, h2⟩ := hl
  have hl : l = 0 ∨ l = 1 ∨ l = 3 ∨ l = 4 ∨ l = 5 := by omega
  by_cases h : x ∈ opTab.map (·.1)
  · rw [look_words] at h
    simp only [List.mem_cons, List.not_mem_nil, or_false] at h
    rcases hl with rfl | rfl | rfl | rfl | rfl <;> rcases h with rfl | rfl | rfl | rfl | rfl | rfl | rfl | rfl | rfl | rfl | rfl | rfl | rfl | rfl <;> decide
  · have h2 : x ∉ signs l := fun e => h (by
      rw [look_words]
      rcases hl with rfl | rfl | rfl | rfl | rfl <;> simp only [signs, List.mem_cons, List.not_mem_nil, or_false] at e ⊢
      · simp [e]
      · simp [e]
      · rcases e with rfl | rfl | rfl | rfl | rfl | rfl <;> simp
      · rcases e with rfl | rfl <;> simp
      · rcases e with rfl | rfl <;> simp)
    unfold opAt
    rw [look_no h, idx_no h2]; rfl
end Go.Proofs.YtedbpjcglnkjmaaGreatDoor
