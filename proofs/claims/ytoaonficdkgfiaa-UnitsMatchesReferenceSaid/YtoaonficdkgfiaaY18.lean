/- Texts on units: URsl URer -/
import Derived.Test.YtoaonficdkgfiaaY17
namespace Go.Proofs.Ytoaonficdkgfiaa
open Go.RowKit Un MapKept

set_option maxRecDepth 100000 in
set_option maxHeartbeats 2000000 in
theorem slice_ruleL (l : List Value) (hl : l.length = 28) (w : World) : (Instr.buildSlice 23 1 #[(0, .agg l.toArray)]).run Try.prog w = .ok (.slice (some ⟨w.heap.size, 0, none⟩) 1 1) (w.alloc (.cells l.toArray 58)) := by
 obtain ⟨x0, l, rfl⟩ : ∃ x t, l = x :: t := by cases l with | nil => simp at hl | cons a b => exact ⟨a, b, rfl⟩
 obtain ⟨x1, l, rfl⟩ : ∃ x t, l = x :: t := by cases l with | nil => simp at hl | cons a b => exact ⟨a, b, rfl⟩
 obtain ⟨x2, l, rfl⟩ : ∃ x t, l = x :: t := by cases l with | nil => simp at hl | cons a b => exact ⟨a, b, rfl⟩
 obtain ⟨x3, l, rfl⟩ : ∃ x t, l = x :: t := by cases l with | nil => simp at hl | cons a b => exact ⟨a, b, rfl⟩
 obtain ⟨x4, l, rfl⟩ : ∃ x t, l = x :: t := by cases l with | nil => simp at hl | cons a b => exact ⟨a, b, rfl⟩
 obtain ⟨x5, l, rfl⟩ : ∃ x t, l = x :: t := by cases l with | nil => simp at hl | cons a b => exact ⟨a, b, rfl⟩
 obtain ⟨x6, l, rfl⟩ : ∃ x t, l = x :: t := by cases l with | nil => simp at hl | cons a b => exact ⟨a, b, rfl⟩
 obtain ⟨x7, l, rfl⟩ : ∃ x t, l = x :: t := by cases l with | nil => simp at hl | cons a b => exact ⟨a, b, rfl⟩
 obtain ⟨x8, l, rfl⟩ : ∃ x t, l = x :: t := by cases l with | nil => simp at hl | cons a b => exact ⟨a, b, rfl⟩
 obtain ⟨x9, l, rfl⟩ : ∃ x t, l = x :: t := by cases l with | nil => simp at hl | cons a b => exact ⟨a, b, rfl⟩
 obtain ⟨x10, l, rfl⟩ : ∃ x t, l = x :: t := by cases l with | nil => simp at hl | cons a b => exact ⟨a, b, rfl⟩
 obtain ⟨x11, l, rfl⟩ : ∃ x t, l = x :: t := by cases l with | nil => simp at hl | cons a b => exact ⟨a, b, rfl⟩
 obtain ⟨x12, l, rfl⟩ : ∃ x t, l = x :: t := by cases l with | nil => simp at hl | cons a b => exact ⟨a, b, rfl⟩
 obtain ⟨x13, l, rfl⟩ : ∃ x t, l = x :: t := by cases l with | nil => simp at hl | cons a b => exact ⟨a, b, rfl⟩
 obtain ⟨x14, l, rfl⟩ : ∃ x t, l = x :: t := by cases l with | nil => simp at hl | cons a b => exact ⟨a, b, rfl⟩
 obtain ⟨x15, l, rfl⟩ : ∃ x t, l = x :: t := by cases l with | nil => simp at hl | cons a b => exact ⟨a, b, rfl⟩
 obtain ⟨x16, l, rfl⟩ : ∃ x t, l = x :: t := by cases l with | nil => simp at hl | cons a b => exact ⟨a, b, rfl⟩
 obtain ⟨x17, l, rfl⟩ : ∃ x t, l = x :: t := by cases l with | nil => simp at hl | cons a b => exact ⟨a, b, rfl⟩
 obtain ⟨x18, l, rfl⟩ : ∃ x t, l = x :: t := by cases l with | nil => simp at hl | cons a b => exact ⟨a, b, rfl⟩
 obtain ⟨x19, l, rfl⟩ : ∃ x t, l = x :: t := by cases l with | nil => simp at hl | cons a b => exact ⟨a, b, rfl⟩
 obtain ⟨x20, l, rfl⟩ : ∃ x t, l = x :: t := by cases l with | nil => simp at hl | cons a b => exact ⟨a, b, rfl⟩
 obtain ⟨x21, l, rfl⟩ : ∃ x t, l = x :: t := by cases l with | nil => simp at hl | cons a b => exact ⟨a, b, rfl⟩
 obtain ⟨x22, l, rfl⟩ : ∃ x t, l = x :: t := by cases l with | nil => simp at hl | cons a b => exact ⟨a, b, rfl⟩
 obtain ⟨x23, l, rfl⟩ : ∃ x t, l = x :: t := by cases l with | nil => simp at hl | cons a b => exact ⟨a, b, rfl⟩
 obtain ⟨x24, l, rfl⟩ : ∃ x t, l = x :: t := by cases l with | nil => simp at hl | cons a b => exact ⟨a, b, rfl⟩
 obtain ⟨x25, l, rfl⟩ : ∃ x t, l = x :: t := by cases l with | nil => simp at hl | cons a b => exact ⟨a, b, rfl⟩
 obtain ⟨x26, l, rfl⟩ : ∃ x t, l = x :: t := by cases l with | nil => simp at hl | cons a b => exact ⟨a, b, rfl⟩
 obtain ⟨x27, l, rfl⟩ : ∃ x t, l = x :: t := by cases l with | nil => simp at hl | cons a b => exact ⟨a, b, rfl⟩
 have : l = [] := by simpa using hl
 subst this
 clear hl
 show _ = _
 kernel_rfl
section
variable {P : Program} {o : Oper} {a : Act} {w w' : World} {K : Act → World → Prop} {Q : Exit → Act → World → Prop} {T : TypeId} {v vm vk : Value}
theorem wp_lookup (m k : Operand) (ok : Bool) (ho : o.op = .lookup T m k ok) (hm : a.eval m = vm) (hk : a.eval k = vk) (hr : (Instr.lookup T vm vk ok).run P w = .ok v w) (h : K (a.put o.dst v) w) : Oper.wp P o a w K Q := by
 unfold Oper.wp execOp
 simp only [ho, Sem.run_bind, Sem.run_pure, hm, hk, hr]
 exact h
theorem wp_mapset (m k x : Operand) (ho : o.op = .mapUpdate T m k x) (hm : a.eval m = vm) (hk : a.eval k = vk) (hx : a.eval x = v) (hr : (Instr.mapUpdate T vm vk v).run P w = .ok () w') (h : K (a.put o.dst undef) w') : Oper.wp P o a w K Q := by
 unfold Oper.wp execOp
 simp only [ho, Sem.run_bind, Sem.run_pure, hm, hk, hx, hr]
 exact h
end
/-- One error is appended; where the slice lies then. -/
theorem DgO.app2 {w : World} {base : Nat} {q : Option Addr} {cap : Nat} {l : List (Int × Int)} (h : DgO w base (.slice q l.length cap) l) (hl : l.length ≤ 1000000) (pl e : Int) (ty : TypeId) :
  ∃ q' cap' W2, (Builtin.append_ #[41, 41] ty #[.slice q l.length cap, .slice (some ⟨w.heap.size, 0, none⟩) 1 1]).run Try.prog (w.alloc (.cells #[.int .i64 pl, .int .i64 e] 66)) = .ok (.slice q' (l ++ [(pl, e)]).length cap') W2 ∧ DgO W2 base (.slice q' (l ++ [(pl, e)]).length cap') (l ++ [(pl, e)]) ∧ w.heap.size ≤ W2.heap.size ∧ W2.os = w.os ∧ W2.tape = w.tape ∧ W2.output = w.output ∧ (∀ j, j < w.heap.size → (Value.slice q l.length cap).ownBlock ≠ some j → W2.heap[j]? = w.heap[j]?) ∧ ∀ j, (Value.slice q' (l ++ [(pl, e)]).length cap').ownBlock = some j → (Value.slice q l.length cap).ownBlock = some j ∨ w.heap.size ≤ j := by
 have b1 := (Below.refl w.heap.size w).alloc (Nat.le_refl _) (.cells #[.int .i64 pl, .int .i64 e] 66)
 have a1 := At2.new w (.int .i64 pl) (.int .i64 e) 66
 have h1 := h.bel b1
 obtain ⟨v', W2, hr, hown, hgr, hob⟩ := run_app1 41 66 2 Try.underlying41 info_G (by decide) _ base ty _ _ _ h1.own w.heap.size (gC (pl, e)) rfl
  (fun j u hu => by
   match j, hu with
   | 0, hu => simp [gC] at hu; subst hu; exact a1.c0
   | 1, hu => simp [gC] at hu; subst hu; exact a1.c1
   | j + 2, hu => simp [gC] at hu) (by simp [gC, Value.oneCell']) hl h1.bs
 obtain ⟨q', cap', rfl⟩ := own_slice hown
 have hs : w.heap.size ≤ W2.heap.size := Nat.le_trans b1.size hgr.size
 have e1 : (l ++ [(pl, e)]).length = l.length + 1 := by simp
 rw [e1]
 refine ⟨q', cap', W2, hr, ⟨by simpa using hown, Nat.le_trans h.bs hs⟩, hs, hgr.os.trans b1.os, hgr.tape.trans b1.tape, hgr.output.trans b1.output, fun j hj hn => (hgr.block j (by simp; omega) (fun e => hn e.symm)).trans (b1.block j hj), fun j hj => ?_⟩
 rcases hob with ho | ho
 ·rw [ho] at hj; exact .inl hj
 ·rw [ho] at hj
  simp at hj
  omega
theorem errsR_drop (fs : List (List UInt8 × U)) (rs : List Ru) (i : Nat) (h : i < rs.length) : errsR fs (rs.take i) (rs.drop i) = (if (errR fs (before (rs.take i) rs[i]) rs[i]).2 = 0 then [] else [errR fs (before (rs.take i) rs[i]) rs[i]]) ++ errsR fs (rs.take (i + 1)) (rs.drop (i + 1)) := by
 rw [List.drop_eq_getElem_cons h, List.take_succ_eq_append_getElem h]
 rfl
/-- How things stand within ruleErrors. -/
structure ReS (w wr : World) (L : List Dc) (m1 m2 fb p1 p2 sb : Nat) (vd : Value) (pre : List Ru) (f : List UInt8 → Option Value) (es : List (Int × Int)) : Prop where
 dg : DgO wr (sb + 3) vd es
 er : ErM wr (sb + 3) (sb + 1) vd pre f
 sc : ScR wr L m1 m2 fb p1 p2
 bx : BoxL wr sb [.map (some m1), .map (some m2)]
 ce : wr.cell? ⟨sb + 2, 0, none⟩ = some (.map (some (sb + 1)))
 be : RowKit.Below w.heap.size w wr
 ws : w.heap.size ≤ sb
 mx : m1 < sb ∧ m2 < sb ∧ fb < sb ∧ p1 < sb ∧ p2 < sb
theorem ReS.size {w wr : World} {L : List Dc} {m1 m2 fb p1 p2 sb : Nat} {vd : Value} {pre : List Ru} {f : List UInt8 → Option Value} {es : List (Int × Int)} (h : ReS w wr L m1 m2 fb p1 p2 sb vd pre f es) : sb + 3 ≤ wr.heap.size := h.dg.bs
theorem ScR.keep {w w' : World} {L : List Dc} {m1 m2 fb p1 p2 sb : Nat} (h : ScR w L m1 m2 fb p1 p2) (hm : m1 < sb ∧ m2 < sb ∧ fb < sb ∧ p1 < sb ∧ p2 < sb) (hb : ∀ j, j < sb → w'.heap[j]? = w.heap[j]?) : ScR w' L m1 m2 fb p1 p2 :=
 ⟨h.mp.of (hb _ hm.1), h.op.mp.of (hb _ hm.2.1), h.op.fl.at (hb _ hm.2.2.1), (World.cell?_of_block (w := w) (a := ⟨p1, 0, none⟩) (hb _ hm.2.2.2.1)).trans h.op.c1, (World.cell?_of_block (w := w) (a := ⟨p2, 0, none⟩) (hb _ hm.2.2.2.2)).trans h.op.c2⟩
theorem ReS.bel {w wr w' : World} {L : List Dc} {m1 m2 fb p1 p2 sb : Nat} {vd : Value} {pre : List Ru} {f : List UInt8 → Option Value} {es : List (Int × Int)} (h : ReS w wr L m1 m2 fb p1 p2 sb vd pre f es) (hB : RowKit.Below wr.heap.size wr w') : ReS w w' L m1 m2 fb p1 p2 sb vd pre f es :=
 ⟨h.dg.bel hB, h.er.bel hB, h.sc.bel hB, h.bx.bel (by simp) hB, (hB.cell (p := ⟨sb + 2, 0, none⟩) (World.block_lt_of_cell? _ _ h.ce)).trans h.ce, h.be.trans (hB.mono h.be.size), h.ws, h.mx⟩
/-- An error more. -/
theorem ReS.diag {w wr w' : World} {L : List Dc} {m1 m2 fb p1 p2 sb : Nat} {vd vd' : Value} {pre : List Ru} {f : List UInt8 → Option Value} {es es' : List (Int × Int)} (h : ReS w wr L m1 m2 fb p1 p2 sb vd pre f es) (hd : DgO w' (sb + 3) vd' es') (hs : wr.heap.size ≤ w'.heap.size) (h1 : w'.os = wr.os) (h2 : w'.tape = wr.tape) (h3 : w'.output = wr.output) (hk : ∀ j, j < wr.heap.size → vd.ownBlock ≠ some j → w'.heap[j]? = wr.heap[j]?) (hn : ∀ j, vd'.ownBlock = some j → vd.ownBlock = some j ∨ wr.heap.size ≤ j) : ReS w w' L m1 m2 fb p1 p2 sb vd' pre f es' := by
 have hz := h.size
 have hws := h.ws
 have kb : ∀ j, j < sb + 3 → w'.heap[j]? = wr.heap[j]? := fun j hj => hk j (by omega) (fun e => by have := (h.dg.lt j e).1; omega)
 exact ⟨hd, h.er.diag (fun j hj => (h.dg.lt j hj).1) hk hn, h.sc.keep h.mx (fun j hj => kb j (by omega)), h.bx.of (kb _ (by omega)), (World.cell?_of_block (w := wr) (a := ⟨sb + 2, 0, none⟩) (kb _ (by show sb + 2 < _; omega))).trans h.ce, ⟨h1.trans h.be.os, h2.trans h.be.tape, h3.trans h.be.output, Nat.le_trans h.be.size hs, fun k hk2 => (kb k (by omega)).trans (h.be.block k hk2)⟩, h.ws, h.mx⟩
/-- A rule more in the map. -/
theorem ReS.add {w wr W2 : World} {L : List Dc} {m1 m2 fb p1 p2 sb : Nat} {vd v' : Value} {pre : List Ru} {f : List UInt8 → Option Value} {es : List (Int × Int)} (h : ReS w wr L m1 m2 fb p1 p2 sb vd pre f es) (r : Ru) (ob : Obj) (he : ErM { W2 with heap := W2.heap.setIfInBounds (sb + 1) ob } (sb + 3) (sb + 1) vd (pre ++ [r]) (updF f r.nm v'))
  (hs : wr.heap.size ≤ W2.heap.size) (h1 : W2.os = wr.os) (h2 : W2.tape = wr.tape) (h3 : W2.output = wr.output) (hk : ∀ j, j < wr.heap.size → (j < sb + 3 ∨ vd.ownBlock = some j) → W2.heap[j]? = wr.heap[j]?) : ReS w { W2 with heap := W2.heap.setIfInBounds (sb + 1) ob } L m1 m2 fb p1 p2 sb vd (pre ++ [r]) (updF f r.nm v') es := by
 have hz := h.size
 have hws := h.ws
 have hset : ∀ j, j ≠ sb + 1 → ({ W2 with heap := W2.heap.setIfInBounds (sb + 1) ob } : World).heap[j]? = W2.heap[j]? := fun j hj => by simp [Ne.symm hj]
 have kb : ∀ j, j < sb + 3 → j ≠ sb + 1 → ({ W2 with heap := W2.heap.setIfInBounds (sb + 1) ob } : World).heap[j]? = wr.heap[j]? := fun j hj hn => (hset j hn).trans (hk j (by omega) (.inl hj))
 exact ⟨h.dg.keep (by simpa using hs) (fun j hj hj2 => (hset j (by have := (h.dg.lt j hj).1; omega)).trans (hk j hj2 (.inr hj))), he, h.sc.keep h.mx (fun j hj => kb j (by omega) (by omega)), h.bx.of (kb _ (by omega) (by omega)), (World.cell?_of_block (w := wr) (a := ⟨sb + 2, 0, none⟩) (kb _ (by show sb + 2 < _; omega) (by show sb + 2 ≠ _; omega))).trans h.ce, ⟨h1.trans h.be.os, h2.trans h.be.tape, h3.trans h.be.output, by simpa using Nat.le_trans h.be.size hs, fun k hk2 => (kb k (by omega) (by omega)).trans (h.be.block k hk2)⟩, h.ws, h.mx⟩
end Go.Proofs.Ytoaonficdkgfiaa
namespace Go.Proofs.Ytoaonficdkgfiaa
open Go.RowKit Un MapKept

theorem MapF.newAt {κ : Type} (key : κ → Value) (d : TypeDesc) (w : World) (n : Nat) (h : w.heap.size = n) : MapF key d (w.alloc (.map #[] 0)) n (fun _ => none) := h ▸ MapF.new key d w
set_option maxRecDepth 100000 in
set_option maxHeartbeats 16000000 in
theorem uruleErrors_any (L : List Dc) (hf : formD L = true) (hle : errsD [] L = []) (rs : List Ru) (hrl : rs.length ≤ 100000) (hfr : rs.all (formR vld) = true) (rows : List (List Value)) (pd pr : Option Addr) (bd od cd br orr cr : Nat) (A : Nat → Prop) (w : World) (hD : SlR w pd bd od L.length 8 (L.map dC)) (hR : RsM w A pr br orr rs rows) :
    Calls Try.prog 44 #[.agg #[.slice pd L.length cd, .slice pr rs.length cr]] w fun e w' => ∃ v, e = .returned v ∧ DgO w' w.heap.size v (errsR (Un.facts L) [] rs) ∧ RowKit.Below w.heap.size w w' := by
  have hmm := @run_makeMap Try.prog
  have hmf : ∀ (fn : Fn) (first cap : Array Value) (w : World), (Instr.makeFunc fn first cap).run Try.prog w = .ok (.func fn first cap) w := fun _ _ _ _ => rfl
  have KN := Lib.hid (fun V h => unewScope_any L hle pd bd od cd V (hD.bel h))
  have hln := hR.sl.ln
  have hmax := hR.sl.max
  have KC : Hid (∀ (i : Nat) (hi : i < rs.length) (h' : i < rows.length) (m1 m2 fb p1 p2 base mb : Nat) (vd : Value) (pre : List Ru) (f : List UInt8 → Option Value) (sb ub eb : Nat) (V : World), RowKit.Below w.heap.size w V → ScR V L m1 m2 fb p1 p2 → ErM V base mb vd pre f → BoxL V sb [.map (some m1), .map (some m2)] → BoxL V ub rows[i] → V.cell? ⟨eb, 0, none⟩ = some (.map (some mb)) →
      Calls Try.prog 35 #[.func (.func 63) #[] #[.pointer (some ⟨sb, 0, none⟩), .pointer (some ⟨ub, 0, none⟩), .pointer (some ⟨eb, 0, none⟩)]] V fun e w' => e = .returned (.agg #[.int .i64 (caught (errR (Un.facts L) (before pre rs[i]) rs[i])).1, .int .i64 (caught (errR (Un.facts L) (before pre rs[i]) rs[i])).2]) ∧ RowKit.Below V.heap.size V w') := fun i hi h' m1 m2 fb p1 p2 base mb vd pre f sb ub eb V hV h1 h2 h3 h4 h5 => by
    obtain ⟨x, y, g1, g2⟩ := hR.ru i hi h'
    have hfi := List.all_eq_true.1 hfr rs[i] (List.getElem_mem hi)
    simp only [formR, Bool.and_eq_true, form] at hfi
    exact ure1_caught L hf rs[i] 20 hfi.1.2.1 hfi.2.1 x y rows[i] g1 A m1 m2 fb p1 p2 base mb vd pre f sb ub eb V (g2.bel hV) h1 h2 h3 h4 h5
  have KO := Lib.hid (fun (i : Nat) (hi : i < rs.length) (h' : i < rows.length) => (hR.ru i hi h' : ∃ x y, RuC rs[i] x y rows[i] ∧ RuM w A rs[i] x y))
  have HS := Lib.hid hR.sl
  have A1 := (Below.refl w.heap.size w).alloc (Nat.le_refl _) (.cells #[.slice pd L.length cd, .slice pr rs.length cr] 25)
  have X1 := Lib.hid (BoxL.new w [.slice pd L.length cd, .slice pr rs.length cr] 25)
  have HB := Lib.hid A1
  have hz0 : (w.alloc (.cells #[.slice pd L.length cd, .slice pr rs.length cr] 25)).heap.size = w.heap.size + 1 := by simp
  obtain ⟨R, hRR⟩ : ∃ R, R = errsR (Un.facts L) [] rs := ⟨_, rfl⟩
  rw [← hRR]
  have HR := Lib.hid hRR
  clear hRR hD hR A1 hfr hle hf
  generalize hW1 : w.alloc (.cells #[.slice pd L.length cd, .slice pr rs.length cr] 25) = W1 at *
  obtain ⟨c0, -⟩ := X1.out 0 _ rfl
  go_enter Try.func44, Try.ntmps44
  go_wp2_with fail
  refine (KN.out _ HB.out).mono ?_
  rintro _ V1 ⟨m1, m2, fb, p1, p2, rfl, hsc, hb⟩
  have HB1 := Lib.hid (HB.out.trans (hb.mono HB.out.size))
  have X2 := X1.out.bel (by simp) hb
  obtain ⟨sb, hsb⟩ : ∃ sb, V1.heap.size = sb := ⟨_, rfl⟩
  have hws : w.heap.size + 1 ≤ sb := by have := hb.size; omega
  have mx : m1 < sb ∧ m2 < sb ∧ fb < sb ∧ p1 < sb ∧ p2 < sb := by
    rw [← hsb]
    exact ⟨hsc.mp.lt, hsc.op.mp.lt, hsc.op.fl.lt, World.block_lt_of_cell? _ _ hsc.op.c1, World.block_lt_of_cell? _ _ hsc.op.c2⟩
  obtain ⟨V2, hV2⟩ : ∃ V2, V1.alloc (.cells #[.map (some m1), .map (some m2)] 72) = V2 := ⟨_, rfl⟩
  have a2 := (Below.refl V1.heap.size V1).alloc (Nat.le_refl _) (.cells #[.map (some m1), .map (some m2)] 72)
  have x2 : BoxL V2 sb [.map (some m1), .map (some m2)] := by rw [← hV2]; exact box_new _ _ hsb
  have s2 : V2.heap.size = sb + 1 := by rw [← hV2]; simp; omega
  rw [hV2] at a2
  obtain ⟨V3, hV3⟩ : ∃ V3, V2.alloc (.map #[] 0) = V3 := ⟨_, rfl⟩
  have a3 := (Below.refl V2.heap.size V2).alloc (Nat.le_refl _) (.map #[] 0)
  have x3 : MapF kS .string V3 (sb + 1) (fun _ => none) := by rw [← hV3]; exact MapF.newAt _ _ _ _ s2
  have s3 : V3.heap.size = sb + 2 := by rw [← hV3]; simp; omega
  rw [hV3] at a3
  obtain ⟨V4, hV4⟩ : ∃ V4, V3.alloc (.cells #[.map (some (sb + 1))] 97) = V4 := ⟨_, rfl⟩
  have a4 := (Below.refl V3.heap.size V3).alloc (Nat.le_refl _) (.cells #[.map (some (sb + 1))] 97)
  have x4 : BoxL V4 (sb + 2) [.map (some (sb + 1))] := by rw [← hV4]; exact box_new _ _ s3
  have s4 : V4.heap.size = sb + 3 := by rw [← hV4]; simp; omega
  rw [hV4] at a4
  have a34 := a3.trans (a4.mono a3.size)
  have a24 := a2.trans (a34.mono a2.size)
  have H0 : Hid (ReS w V4 L m1 m2 fb p1 p2 sb (.slice none 0 0) [] (fun _ => none) []) :=
    ⟨DgO.nil _ _ (by omega), ⟨x3.bel a4, (fun s v h => by cases h), (fun _ _ => rfl), (fun s s' v v' j _ h => by cases h), (fun s v j h => by cases h), by omega⟩, hsc.bel a24, x2.bel (by simp) a34, (x4 0 _ rfl).1, HB1.out.trans (a24.mono HB1.out.size), by omega, mx⟩
  have X3 := Lib.hid (X2.bel (by simp) a24)
  clear a2 a3 a4 a34 a24 x2 x3 x4 hsc hb X2 HB HB1 X1 KN c0
  obtain ⟨c1, -⟩ := X3.out 1 _ rfl
  have hm4 : V3.heap.size = sb + 2 := s3
  go_wp2_with fail
  clear hV2 hV3 hV4 hW1 c1
  go_loopg [3, 16] rs.length (fun g v3 v16 wr => ∃ (i : Nat) (q : Option Addr) (cap : Nat) (es : List (Int × Int)) (f : List UInt8 → Option Value), i ≤ rs.length ∧ rs.length - i ≤ g ∧ v16 = .int .i64 i ∧ v3 = .slice q es.length cap ∧ es.length ≤ i ∧ Hid (errsR (Un.facts L) [] rs = es ++ errsR (Un.facts L) (rs.take i) (rs.drop i)) ∧ Hid (ReS w wr L m1 m2 fb p1 p2 sb (.slice q es.length cap) (rs.take i) f es))
  case atStart => exact ⟨0, none, 0, [], fun _ => none, Nat.zero_le _, by omega, by simp, rfl, Nat.le_refl _, by show _ = _; simp, H0⟩
  case round =>
    obtain ⟨i, q, cap, es, f, hi, hg, rfl, rfl, hes, HM, HF⟩ := hrel
    by_cases hlt : i < rs.length
    · have hz : (i : Int) < (rs.length : Int) := by omega
      have hq := HS.out.ptr (by omega)
      subst hq
      have hr := (HS.out.bel HF.out.be).at_ i rows[i] (List.getElem?_eq_getElem (by omega))
      have hld := load_rule wr br (orr + i * 28) rows[i] hr.1 hr.2
      obtain ⟨x, y, hru, -⟩ := KO.out i hlt (by omega)
      have KQ := Lib.hid (KC.out i hlt (by omega))
      have E3 := Lib.hid (HM.out.trans (by rw [errsR_drop _ _ _ hlt]))
      have htk : rs.take (i + 1) = rs.take i ++ [rs[i]] := List.take_succ_eq_append_getElem hlt
      have hpl : (rs.take i).length ≤ 1000000 := by rw [List.length_take]; omega
      rw [htk] at E3
      have HTK := Lib.hid htk
      clear hr HM KC htk
      generalize rs[i] = r at *
      generalize rows[i] = l at *
      generalize hpre : rs.take i = pre at *
      have E4 : Hid (caught (errR (Un.facts L) (before pre r) r) = if (errR (Un.facts L) (before pre r) r).2 = 0 then (0, 0) else errR (Un.facts L) (before pre r) r) := rfl
      have e2 : IntKind.i64.wrap ((i : Int) + 1) = ((i + 1 : Nat) : Int) := by rw [IntWalk.i64_in _ (by omega)]; rfl
      have hl := hru.len
      have hone := hru.one
      go_wp2_with (first | ((with_reducible show wpList _ _ _ ({ dst := some 19, op := _, type := _, pos := _, after := _, guard := _ } :: _) _ _); refine wl_loadP rfl rfl rfl hld ?_) | ((with_reducible show wpList _ _ _ ({ dst := some 7, op := _, type := _, pos := _, after := _, guard := _ } :: _) _ _); refine wl_rbox rfl rfl rfl rfl hl hone rfl rfl ?_; intro V hb hsz hx; have F1 := Lib.hid (HF.out.bel hb); have B1 := Lib.hid hx; clear hb hx hld))
      have hzz := HF.out.size
      have HNU : Hid (∀ s v, f s = some v → v.ownBlock ≠ some wr.heap.size) := fun s v hv e => by
        obtain ⟨rows', -, ho, -⟩ := HF.out.er.own s v hv
        have := (ho.lt _ e).2
        omega
      have HNV : Hid ((Value.slice q es.length cap).ownBlock ≠ some wr.heap.size) := fun e => by have := (HF.out.dg.lt _ e).2; omega
      generalize wr.heap.size = ub at *
      refine (KQ.out m1 m2 fb p1 p2 _ _ _ _ _ sb ub (sb + 2) V F1.out.be F1.out.sc F1.out.er F1.out.bx B1.out F1.out.ce).mono ?_
      rintro _ V2 ⟨rfl, hb⟩
      generalize caught (errR (Un.facts L) (before pre r) r) = D at E4 ⊢
      generalize errR (Un.facts L) (before pre r) r = G at E3 E4
      obtain ⟨pl, E⟩ := D
      dsimp only
      have F2 := Lib.hid (F1.out.bel hb)
      have B2 := Lib.hid (B1.out.bel (by omega) hb)
      have NUD := HNV
      have NUB : Hid (∀ s v, f s = some v → v.ownBlock ≠ some ub) := HNU
      have HS0 : Hid (bs r.nm = bs r.nm) := rfl
      obtain ⟨s, hs0⟩ : ∃ s, bs r.nm = s := ⟨_, rfl⟩
      replace HS0 := Lib.hid hs0
      clear hb F1 B1 KQ hs0
      have a7 := (Below.refl V2.heap.size V2).alloc (Nat.le_refl _) (.cells #[.int .i64 pl, .int .i64 E] 66)
      have D7 := Lib.hid (box_new (w := V2) [.int .i64 pl, .int .i64 E] 66 rfl)
      have F3 := Lib.hid (F2.out.bel a7)
      have B3 := Lib.hid (B2.out.bel (by omega) a7)
      clear a7 F2 B2
      by_cases h0 : G.2 = 0
      · have e5 : (pl, E) = (0, 0) := by rw [E4.out, if_pos h0]
        obtain ⟨rfl, rfl⟩ : pl = 0 ∧ E = 0 := by simpa using e5
        have E5 : Hid (errsR (Un.facts L) [] rs = es ++ errsR (Un.facts L) (rs.take (i + 1)) (rs.drop (i + 1))) := by show _ = _; rw [E3.out, if_pos h0, HTK.out]; rfl
        clear E3 E4 e5 h0
        obtain ⟨d1, -⟩ := D7.out 1 _ rfl
        go_wp2_with fail
        generalize V2.alloc (.cells #[.int .i64 0, .int .i64 0] 66) = V8 at *
        have F9 := Lib.hid (F3.out.bel (Below.refl V8.heap.size V8).drew)
        have B9 := Lib.hid (B3.out.bel (by omega) (Below.refl V8.heap.size V8).drew)
        obtain ⟨w0, -⟩ := B9.out 0 _ hru.f0
        have cce := F9.out.ce
        have hlk8 : ∀ U : World, ErM U (sb + 3) (sb + 1) (.slice q es.length cap) pre f → (Instr.lookup 97 (.map (some (sb + 1))) (.string (bs r.nm)) false).run Try.prog U = .ok ((f r.nm).getD (.slice none 0 0)) U := fun U h => h.mp.ask und_erl und_str r.nm (by trivial) false (.slice none 0 0) (zero_rs U)
        obtain ⟨v9, W9, ob9, hra, hup, hE9, g0, g1, g2, g3, g4, g5⟩ := F9.out.er.add F9.out.size (fun j hj => F9.out.dg.lt j hj) hpl r x y l hru 23
        have hF10 := F9.out.add r ob9 hE9 g0 g1 g2 g3 g4
        rw [← HTK.out] at hF10
        have F10 := Lib.hid hF10
        have a9 := (Below.refl V8.drew.heap.size V8.drew).alloc (Nat.le_refl _) (.cells l.toArray 58)
        have hlkA := hlk8 _ F9.out.er
        have hlkB := hlk8 _ (F9.out.bel a9).er
        have hubl : ub < V8.drew.heap.size := B9.out.lt (by omega)
        have hzd := F9.out.size
        have kub := g5 ub hubl (fun v hv => NUB.out r.nm v hv)
        have kce := g4 (sb + 2) (by omega) (.inl (by omega))
        have BW := B9.out.of kub
        have cW := (World.cell?_of_block (w := V8.drew) (a := ⟨sb + 2, 0, none⟩) kce).trans cce
        have BX := Lib.hid (BW.of (show ({ W9 with heap := W9.heap.setIfInBounds (sb + 1) ob9 } : World).heap[ub]? = W9.heap[ub]? by simp [show sb + 1 ≠ ub by omega]))
        have S1 := Lib.hid (show V8.drew.cell? ⟨sb + 2, 0, none⟩ = some (.map (some (sb + 1))) ∧ V8.drew.cell? ⟨ub, 0, none⟩ = some (.string s) ∧ Hid (BoxL V8.drew ub l) from ⟨cce, by rw [← HS0.out]; exact w0, B9.out⟩)
        have S2 := Lib.hid (show (V8.drew.alloc (.cells l.toArray 58)).cell? ⟨sb + 2, 0, none⟩ = some (.map (some (sb + 1))) ∧ (V8.drew.alloc (.cells l.toArray 58)).cell? ⟨ub, 0, none⟩ = some (.string s) ∧ Hid (BoxL (V8.drew.alloc (.cells l.toArray 58)) ub l) from ⟨(F9.out.bel a9).ce, by rw [← HS0.out]; exact (B9.out.bel (by omega) a9 0 _ hru.f0).1, B9.out.bel (by omega) a9⟩)
        have S3 := Lib.hid (show W9.cell? ⟨sb + 2, 0, none⟩ = some (.map (some (sb + 1))) ∧ W9.cell? ⟨ub, 0, none⟩ = some (.string s) ∧ Hid (BoxL W9 ub l) from ⟨cW, by rw [← HS0.out]; exact (BW 0 _ hru.f0).1, BW⟩)
        have S4 := Lib.hid (show ({ W9 with heap := W9.heap.setIfInBounds (sb + 1) ob9 } : World).cell? ⟨sb + 2, 0, none⟩ = some (.map (some (sb + 1))) ∧ ({ W9 with heap := W9.heap.setIfInBounds (sb + 1) ob9 } : World).cell? ⟨ub, 0, none⟩ = some (.string s) ∧ Hid (BoxL ({ W9 with heap := W9.heap.setIfInBounds (sb + 1) ob9 } : World) ub l) from ⟨F10.out.ce, by rw [← HS0.out]; exact (BX.out 0 _ hru.f0).1, BX.out⟩)
        rw [HS0.out] at hlkA hlkB hup
        clear hF10 hE9 hlk8 a9 g0 g1 g2 g3 g4 g5 kub kce BW cW BX F9 B9 w0 cce
        generalize (f r.nm).getD (.slice none 0 0) = vo at *
        have w0 := S1.out.2.1
        have cce := S1.out.1
        have hS := S1.out
        refine wp_region_held (S := fun w' : World => w'.cell? ⟨sb + 2, 0, none⟩ = some (.map (some (sb + 1))) ∧ w'.cell? ⟨ub, 0, none⟩ = some (.string s) ∧ Hid (BoxL w' ub l)) mixed ?_
        change wpAnyH _ _ _ _ _ _ _ _ V8.drew
        refine tk0 (v := ?_) (by kernel_rfl) (by kernel_rfl) (by kernel_rfl) (fun _ _ _ h => h) (Or.inl ⟨by rfl, ?_⟩) hS ?_
        rotate_left
        · (intro w hSw; (try dsimp only at hSw); go_simp; try with_reducible rfl)
        simp only [Act.put, zA, zB, zC]
        refine tk1 (v := ?_) (by kernel_rfl) (by kernel_rfl) (by kernel_rfl) (fun _ _ _ h => h) (Or.inl ⟨by rfl, ?_⟩) hS ?_
        rotate_left
        · (intro w hSw; (try dsimp only at hSw); go_simp; try with_reducible rfl)
        simp only [Act.put, zA, zB, zC]
        refine tk2 (v := ?_) (by kernel_rfl) (by kernel_rfl) (by kernel_rfl) (fun _ _ _ h => h) (Or.inl ⟨by rfl, ?_⟩) hS ?_
        rotate_left
        · (intro w hSw; (try dsimp only at hSw); go_simp; try with_reducible rfl)
        simp only [Act.put, zA, zB, zC]
        refine tk3 (v := ?_) (by kernel_rfl) (by kernel_rfl) (by kernel_rfl) (fun _ _ _ h => h) (Or.inl ⟨by rfl, ?_⟩) hS ?_
        rotate_left
        · (intro w hSw; (try dsimp only at hSw); go_simp; try with_reducible rfl)
        simp only [Act.put, zA, zB, zC]
        refine tk4 (v := ?_) (by kernel_rfl) (by kernel_rfl) (by kernel_rfl) (fun _ _ _ h => h) (Or.inl ⟨by rfl, ?_⟩) hS ?_
        rotate_left
        · (intro w hSw; (try dsimp only at hSw); go_simp; try with_reducible rfl)
        simp only [Act.put, zA, zB, zC]
        refine tk5 (v := ?_) (by kernel_rfl) (by kernel_rfl) (by kernel_rfl) (fun _ _ _ h => h) (Or.inl ⟨by rfl, ?_⟩) hS ?_
        rotate_left
        · (intro w hSw; (try dsimp only at hSw); go_simp; try with_reducible rfl)
        simp only [Act.put, zA, zB, zC]
        refine tk7 (v := .agg l.toArray) (by kernel_rfl) (by kernel_rfl) (by kernel_rfl) (fun _ _ _ h => h) (Or.inl ⟨by rfl, (by intro w hSw; have h1 := hSw.2.2; exact ex_load rfl rfl (load_rule w _ 0 l hl (fun j v hv => by rw [Nat.zero_add]; exact (h1.out j v hv).1)))⟩) hS ?_
        simp only [Act.put, zA, zB, zC]
        clear hS w0 cce
        refine wpAnyH_ready (rs := [6, 8]) (by kernel_rfl) (by simp) (st6 (fun K hK => ?_) (st8 (fun K hK => ?_) AllReadyH.nil))
        · refine (if_pos (by kernel_rfl)).mpr ?_
          refine wp_lookup _ _ _ rfl rfl rfl hlkA ?_
          refine hK.out _ _ ?_ (fun hHeld => ?_)
          · exact S1.out
          clear hK K
          try simp only [Act.put, zA, zB, zC]
          refine wpAnyH_ready (rs := [8]) (by kernel_rfl) (by simp) (st8 (fun K hK => ?_) AllReadyH.nil)
          refine (if_pos (by kernel_rfl)).mpr ?_
          refine wp_slice1 rfl rfl (slice_ruleL l hl _) ?_
          refine hK.out _ _ ?_ (fun hHeld => ?_)
          · exact S2.out
          clear hK K
          try simp only [Act.put, zA, zB, zC]
          refine wpAnyH_ready (rs := [9]) (by kernel_rfl) (by simp) (st9 (fun K hK => ?_) AllReadyH.nil)
          refine (if_pos (by kernel_rfl)).mpr ?_
          refine wp_app (.tmp 35) (.tmp 37) (by rfl) (by rfl) (by rfl) hra ?_
          refine hK.out _ _ ?_ (fun hHeld => ?_)
          · exact S3.out
          clear hK K
          try simp only [Act.put, zA, zB, zC]
          refine wpAnyH_ready (rs := [10]) (by kernel_rfl) (by simp) (st10 (fun K hK => ?_) AllReadyH.nil)
          refine (if_pos (by kernel_rfl)).mpr ?_
          refine wp_mapset _ _ _ rfl rfl rfl rfl hup ?_
          refine hK.out _ _ ?_ (fun hHeld => ?_)
          · exact S4.out
          clear hK K
          try simp only [Act.put]
          refine wpAnyH_done (by kernel_rfl) ?_ _
          go_wp2_with fail
          go_roundg (rs.length - (i + 1))
          case measure => omega
          case rel => exact ⟨i + 1, q, cap, es, _, by omega, Nat.le_refl _, by simp, by simp, by first | omega | (simp; omega), E5, F10⟩
        · refine (if_pos (by kernel_rfl)).mpr ?_
          refine wp_slice1 rfl rfl (slice_ruleL l hl _) ?_
          refine hK.out _ _ ?_ (fun hHeld => ?_)
          · exact S2.out
          clear hK K
          try simp only [Act.put, zA, zB, zC]
          refine wpAnyH_ready (rs := [6]) (by kernel_rfl) (by simp) (st6 (fun K hK => ?_) AllReadyH.nil)
          refine (if_pos (by kernel_rfl)).mpr ?_
          refine wp_lookup _ _ _ rfl rfl rfl hlkB ?_
          refine hK.out _ _ ?_ (fun hHeld => ?_)
          · exact S2.out
          clear hK K
          try simp only [Act.put, zA, zB, zC]
          refine wpAnyH_ready (rs := [9]) (by kernel_rfl) (by simp) (st9 (fun K hK => ?_) AllReadyH.nil)
          refine (if_pos (by kernel_rfl)).mpr ?_
          refine wp_app (.tmp 35) (.tmp 37) (by rfl) (by rfl) (by rfl) hra ?_
          refine hK.out _ _ ?_ (fun hHeld => ?_)
          · exact S3.out
          clear hK K
          try simp only [Act.put, zA, zB, zC]
          refine wpAnyH_ready (rs := [10]) (by kernel_rfl) (by simp) (st10 (fun K hK => ?_) AllReadyH.nil)
          refine (if_pos (by kernel_rfl)).mpr ?_
          refine wp_mapset _ _ _ rfl rfl rfl rfl hup ?_
          refine hK.out _ _ ?_ (fun hHeld => ?_)
          · exact S4.out
          clear hK K
          try simp only [Act.put]
          refine wpAnyH_done (by kernel_rfl) ?_ _
          go_wp2_with fail
          go_roundg (rs.length - (i + 1))
          case measure => omega
          case rel => exact ⟨i + 1, q, cap, es, _, by omega, Nat.le_refl _, by simp, by simp, by first | omega | (simp; omega), E5, F10⟩
      · have e5 : (pl, E) = G := by rw [E4.out, if_neg h0]
        have hE0 : (E == 0) = false := by have : E = G.2 := by rw [← e5]
                                          simpa [this] using h0
        have E5 : Hid (errsR (Un.facts L) [] rs = (es ++ [(pl, E)]) ++ errsR (Un.facts L) (rs.take (i + 1)) (rs.drop (i + 1))) := by show _ = _; rw [E3.out, if_neg h0, HTK.out, e5, List.append_assoc]
        clear E3 E4 e5 h0
        obtain ⟨d0, -⟩ := D7.out 0 _ rfl
        obtain ⟨d1, -⟩ := D7.out 1 _ rfl
        generalize hV3 : V2.alloc (.cells #[.int .i64 pl, .int .i64 E] 66) = V3 at *
        obtain ⟨q', cap', V8, hra0, hd, hs, g1, g2, g3, hk, hn8⟩ := F3.out.dg.app2 (by omega) pl E 41
        have F4 := Lib.hid (F3.out.diag hd hs g1 g2 g3 hk hn8)
        have B4 := Lib.hid (B3.out.of (hk ub (B3.out.lt (by omega)) (fun e => by have := NUD.out; exact this e)))
        go_wp2_with ((with_reducible show wpList _ _ _ ({ dst := some 28, op := _, type := _, pos := _, after := _, guard := _ } :: _) _ _); refine wl_app (.tmp 25) (.tmp 27) rfl rfl rfl rfl hra0 ?_)
        clear hra0 hd hs g1 g2 g3 hk hn8 hV3 d0 d1 F3 B3 D7
        have F9 := Lib.hid (F4.out.bel (Below.refl V8.heap.size V8).drew)
        have B9 := Lib.hid (B4.out.bel (by omega) (Below.refl V8.heap.size V8).drew)
        obtain ⟨w0, -⟩ := B9.out 0 _ hru.f0
        have cce := F9.out.ce
        have hlk8 : ∀ U : World, ErM U (sb + 3) (sb + 1) ((Value.slice q' (es ++ [(pl, E)]).length cap')) pre f → (Instr.lookup 97 (.map (some (sb + 1))) (.string (bs r.nm)) false).run Try.prog U = .ok ((f r.nm).getD (.slice none 0 0)) U := fun U h => h.mp.ask und_erl und_str r.nm (by trivial) false (.slice none 0 0) (zero_rs U)
        obtain ⟨v9, W9, ob9, hra, hup, hE9, g0, g1, g2, g3, g4, g5⟩ := F9.out.er.add F9.out.size (fun j hj => F9.out.dg.lt j hj) hpl r x y l hru 23
        have hF10 := F9.out.add r ob9 hE9 g0 g1 g2 g3 g4
        rw [← HTK.out] at hF10
        have F10 := Lib.hid hF10
        have a9 := (Below.refl V8.drew.heap.size V8.drew).alloc (Nat.le_refl _) (.cells l.toArray 58)
        have hlkA := hlk8 _ F9.out.er
        have hlkB := hlk8 _ (F9.out.bel a9).er
        have hubl : ub < V8.drew.heap.size := B9.out.lt (by omega)
        have hzd := F9.out.size
        have kub := g5 ub hubl (fun v hv => NUB.out r.nm v hv)
        have kce := g4 (sb + 2) (by omega) (.inl (by omega))
        have BW := B9.out.of kub
        have cW := (World.cell?_of_block (w := V8.drew) (a := ⟨sb + 2, 0, none⟩) kce).trans cce
        have BX := Lib.hid (BW.of (show ({ W9 with heap := W9.heap.setIfInBounds (sb + 1) ob9 } : World).heap[ub]? = W9.heap[ub]? by simp [show sb + 1 ≠ ub by omega]))
        have S1 := Lib.hid (show V8.drew.cell? ⟨sb + 2, 0, none⟩ = some (.map (some (sb + 1))) ∧ V8.drew.cell? ⟨ub, 0, none⟩ = some (.string s) ∧ Hid (BoxL V8.drew ub l) from ⟨cce, by rw [← HS0.out]; exact w0, B9.out⟩)
        have S2 := Lib.hid (show (V8.drew.alloc (.cells l.toArray 58)).cell? ⟨sb + 2, 0, none⟩ = some (.map (some (sb + 1))) ∧ (V8.drew.alloc (.cells l.toArray 58)).cell? ⟨ub, 0, none⟩ = some (.string s) ∧ Hid (BoxL (V8.drew.alloc (.cells l.toArray 58)) ub l) from ⟨(F9.out.bel a9).ce, by rw [← HS0.out]; exact (B9.out.bel (by omega) a9 0 _ hru.f0).1, B9.out.bel (by omega) a9⟩)
        have S3 := Lib.hid (show W9.cell? ⟨sb + 2, 0, none⟩ = some (.map (some (sb + 1))) ∧ W9.cell? ⟨ub, 0, none⟩ = some (.string s) ∧ Hid (BoxL W9 ub l) from ⟨cW, by rw [← HS0.out]; exact (BW 0 _ hru.f0).1, BW⟩)
        have S4 := Lib.hid (show ({ W9 with heap := W9.heap.setIfInBounds (sb + 1) ob9 } : World).cell? ⟨sb + 2, 0, none⟩ = some (.map (some (sb + 1))) ∧ ({ W9 with heap := W9.heap.setIfInBounds (sb + 1) ob9 } : World).cell? ⟨ub, 0, none⟩ = some (.string s) ∧ Hid (BoxL ({ W9 with heap := W9.heap.setIfInBounds (sb + 1) ob9 } : World) ub l) from ⟨F10.out.ce, by rw [← HS0.out]; exact (BX.out 0 _ hru.f0).1, BX.out⟩)
        rw [HS0.out] at hlkA hlkB hup
        clear hF10 hE9 hlk8 a9 g0 g1 g2 g3 g4 g5 kub kce BW cW BX F9 B9 w0 cce
        generalize (f r.nm).getD (.slice none 0 0) = vo at *
        have w0 := S1.out.2.1
        have cce := S1.out.1
        have hS := S1.out
        refine wp_region_held (S := fun w' : World => w'.cell? ⟨sb + 2, 0, none⟩ = some (.map (some (sb + 1))) ∧ w'.cell? ⟨ub, 0, none⟩ = some (.string s) ∧ Hid (BoxL w' ub l)) mixed ?_
        change wpAnyH _ _ _ _ _ _ _ _ V8.drew
        refine tk0 (v := ?_) (by kernel_rfl) (by kernel_rfl) (by kernel_rfl) (fun _ _ _ h => h) (Or.inl ⟨by rfl, ?_⟩) hS ?_
        rotate_left
        · (intro w hSw; (try dsimp only at hSw); go_simp; try with_reducible rfl)
        simp only [Act.put, zA, zB, zC]
        refine tk1 (v := ?_) (by kernel_rfl) (by kernel_rfl) (by kernel_rfl) (fun _ _ _ h => h) (Or.inl ⟨by rfl, ?_⟩) hS ?_
        rotate_left
        · (intro w hSw; (try dsimp only at hSw); go_simp; try with_reducible rfl)
        simp only [Act.put, zA, zB, zC]
        refine tk2 (v := ?_) (by kernel_rfl) (by kernel_rfl) (by kernel_rfl) (fun _ _ _ h => h) (Or.inl ⟨by rfl, ?_⟩) hS ?_
        rotate_left
        · (intro w hSw; (try dsimp only at hSw); go_simp; try with_reducible rfl)
        simp only [Act.put, zA, zB, zC]
        refine tk3 (v := ?_) (by kernel_rfl) (by kernel_rfl) (by kernel_rfl) (fun _ _ _ h => h) (Or.inl ⟨by rfl, ?_⟩) hS ?_
        rotate_left
        · (intro w hSw; (try dsimp only at hSw); go_simp; try with_reducible rfl)
        simp only [Act.put, zA, zB, zC]
        refine tk4 (v := ?_) (by kernel_rfl) (by kernel_rfl) (by kernel_rfl) (fun _ _ _ h => h) (Or.inl ⟨by rfl, ?_⟩) hS ?_
        rotate_left
        · (intro w hSw; (try dsimp only at hSw); go_simp; try with_reducible rfl)
        simp only [Act.put, zA, zB, zC]
        refine tk5 (v := ?_) (by kernel_rfl) (by kernel_rfl) (by kernel_rfl) (fun _ _ _ h => h) (Or.inl ⟨by rfl, ?_⟩) hS ?_
        rotate_left
        · (intro w hSw; (try dsimp only at hSw); go_simp; try with_reducible rfl)
        simp only [Act.put, zA, zB, zC]
        refine tk7 (v := .agg l.toArray) (by kernel_rfl) (by kernel_rfl) (by kernel_rfl) (fun _ _ _ h => h) (Or.inl ⟨by rfl, (by intro w hSw; have h1 := hSw.2.2; exact ex_load rfl rfl (load_rule w _ 0 l hl (fun j v hv => by rw [Nat.zero_add]; exact (h1.out j v hv).1)))⟩) hS ?_
        simp only [Act.put, zA, zB, zC]
        clear hS w0 cce
        refine wpAnyH_ready (rs := [6, 8]) (by kernel_rfl) (by simp) (st6 (fun K hK => ?_) (st8 (fun K hK => ?_) AllReadyH.nil))
        · refine (if_pos (by kernel_rfl)).mpr ?_
          refine wp_lookup _ _ _ rfl rfl rfl hlkA ?_
          refine hK.out _ _ ?_ (fun hHeld => ?_)
          · exact S1.out
          clear hK K
          try simp only [Act.put, zA, zB, zC]
          refine wpAnyH_ready (rs := [8]) (by kernel_rfl) (by simp) (st8 (fun K hK => ?_) AllReadyH.nil)
          refine (if_pos (by kernel_rfl)).mpr ?_
          refine wp_slice1 rfl rfl (slice_ruleL l hl _) ?_
          refine hK.out _ _ ?_ (fun hHeld => ?_)
          · exact S2.out
          clear hK K
          try simp only [Act.put, zA, zB, zC]
          refine wpAnyH_ready (rs := [9]) (by kernel_rfl) (by simp) (st9 (fun K hK => ?_) AllReadyH.nil)
          refine (if_pos (by kernel_rfl)).mpr ?_
          refine wp_app (.tmp 35) (.tmp 37) (by rfl) (by rfl) (by rfl) hra ?_
          refine hK.out _ _ ?_ (fun hHeld => ?_)
          · exact S3.out
          clear hK K
          try simp only [Act.put, zA, zB, zC]
          refine wpAnyH_ready (rs := [10]) (by kernel_rfl) (by simp) (st10 (fun K hK => ?_) AllReadyH.nil)
          refine (if_pos (by kernel_rfl)).mpr ?_
          refine wp_mapset _ _ _ rfl rfl rfl rfl hup ?_
          refine hK.out _ _ ?_ (fun hHeld => ?_)
          · exact S4.out
          clear hK K
          try simp only [Act.put]
          refine wpAnyH_done (by kernel_rfl) ?_ _
          go_wp2_with fail
          go_roundg (rs.length - (i + 1))
          case measure => omega
          case rel => exact ⟨i + 1, q', cap', es ++ [(pl, E)], _, by omega, Nat.le_refl _, by simp, by simp, by first | omega | (simp; omega), E5, F10⟩
        · refine (if_pos (by kernel_rfl)).mpr ?_
          refine wp_slice1 rfl rfl (slice_ruleL l hl _) ?_
          refine hK.out _ _ ?_ (fun hHeld => ?_)
          · exact S2.out
          clear hK K
          try simp only [Act.put, zA, zB, zC]
          refine wpAnyH_ready (rs := [6]) (by kernel_rfl) (by simp) (st6 (fun K hK => ?_) AllReadyH.nil)
          refine (if_pos (by kernel_rfl)).mpr ?_
          refine wp_lookup _ _ _ rfl rfl rfl hlkB ?_
          refine hK.out _ _ ?_ (fun hHeld => ?_)
          · exact S2.out
          clear hK K
          try simp only [Act.put, zA, zB, zC]
          refine wpAnyH_ready (rs := [9]) (by kernel_rfl) (by simp) (st9 (fun K hK => ?_) AllReadyH.nil)
          refine (if_pos (by kernel_rfl)).mpr ?_
          refine wp_app (.tmp 35) (.tmp 37) (by rfl) (by rfl) (by rfl) hra ?_
          refine hK.out _ _ ?_ (fun hHeld => ?_)
          · exact S3.out
          clear hK K
          try simp only [Act.put, zA, zB, zC]
          refine wpAnyH_ready (rs := [10]) (by kernel_rfl) (by simp) (st10 (fun K hK => ?_) AllReadyH.nil)
          refine (if_pos (by kernel_rfl)).mpr ?_
          refine wp_mapset _ _ _ rfl rfl rfl rfl hup ?_
          refine hK.out _ _ ?_ (fun hHeld => ?_)
          · exact S4.out
          clear hK K
          try simp only [Act.put]
          refine wpAnyH_done (by kernel_rfl) ?_ _
          go_wp2_with fail
          go_roundg (rs.length - (i + 1))
          case measure => omega
          case rel => exact ⟨i + 1, q', cap', es ++ [(pl, E)], _, by omega, Nat.le_refl _, by simp, by simp, by first | omega | (simp; omega), E5, F10⟩
    · have hz : ¬ (i : Int) < (rs.length : Int) := by omega
      have hie : i = rs.length := by omega
      subst hie
      have hmm2 := HM.out
      rw [List.drop_length] at hmm2
      simp only [errsR, List.append_nil] at hmm2
      go_wp2_with fail
      go_ret
      refine ⟨_, rfl, ?_, HF.out.be⟩
      rw [HR.out, hmm2]
      exact ⟨HF.out.dg.own.mono (by have := HF.out.ws; omega), HF.out.be.size⟩
end Go.Proofs.Ytoaonficdkgfiaa
