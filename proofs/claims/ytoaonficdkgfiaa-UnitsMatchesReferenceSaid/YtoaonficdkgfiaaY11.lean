/- Texts on units: UScp UCat UUni UUnA UUnB -/
import Derived.Test.YtoaonficdkgfiaaY10
import Derived.Laws.MakeOwn
namespace Go.Proofs.Ytoaonficdkgfiaa
open Go.RowKit Un MapKept

/-- The units of facts, by name. -/
def ftF (l : List Dc) : List UInt8 → Option Value := fun s => (Un.look (Un.facts l) s).map uV
theorem ftF_snoc (l : List Dc) (d : Dc) (h : l.any (fun e => e.nm == d.nm) = false) : updF (ftF l) d.nm (uV d.u) = ftF (l ++ [d]) := by
 funext s
 simp only [updF, ftF, Un.look, Un.facts, List.map_append, List.map_cons, List.map_nil, List.find?_append, List.find?_cons, List.find?_nil]
 by_cases hs : s = d.nm
 ·subst hs
  have : (l.map fun d => (d.nm, d.u)).find? (fun e => e.1 == d.nm) = none := by
   rw [List.find?_eq_none]
   intro x hx
   obtain ⟨y, hy, rfl⟩ := List.mem_map.1 hx
   have := List.any_eq_false.1 h y hy
   simpa using this
  rw [if_pos rfl, this]
  simp
 ·rw [if_neg hs]
  have : (d.nm == s) = false := by simpa using Ne.symm hs
  rw [this]
  simp
theorem errsD_once : ∀ (l pre : List Dc), errsD pre l = [] → ∀ i (h : i < l.length), (pre ++ l.take i).any (fun e => e.nm == l[i].nm) = false
 | [], _, _, i, h => absurd h (Nat.not_lt_zero _)
 | d :: l, pre, he, i, h => by
  simp only [errsD, List.append_eq_nil_iff] at he
  cases i with
  | zero =>
   have h1 := he.1
   simp only [List.take_zero, List.append_nil, List.getElem_cons_zero]
   split at h1
   ·rename_i h2
    unfold errD at h2
    split at h2
    ·cases h2
    ·rename_i h3; simpa using h3
   ·cases h1
  | succ i =>
   have := errsD_once l (pre ++ [d]) he.2 i (by simpa using h)
   simpa [List.any_append, Bool.or_assoc] using this
/-- A scope in memory. -/
structure ScR (w : World) (l : List Dc) (m1 m2 fb p1 p2 : Nat) : Prop where
 mp : MapF kS .string w m1 (ftF l)
 op : OpsR w m2 fb p1 p2
theorem ScR.bel {w w1 : World} {l : List Dc} {m1 m2 fb p1 p2 : Nat} (h : ScR w l m1 m2 fb p1 p2) (hB : RowKit.Below w.heap.size w w1) : ScR w1 l m1 m2 fb p1 p2 := ⟨h.mp.bel hB, h.op.bel hB⟩
theorem ScR.setn {w : World} {l : List Dc} {m1 m2 fb p1 p2 r : Nat} (h : ScR w l m1 m2 fb p1 p2) (n1 : m1 ≠ r) (n2 : m2 ≠ r) (n3 : fb ≠ r) (n4 : p1 ≠ r) (n5 : p2 ≠ r) (o : Nat) (y : Value) : ScR (w.setCell ⟨r, o, none⟩ y) l m1 m2 fb p1 p2 :=
 ⟨h.mp.of (Below.heap_setCell _ _ _ _ n1), ⟨h.op.mp.of (Below.heap_setCell _ _ _ _ n2), h.op.fl.other n3 o y, cell_otn h.op.c1 n4 o y, cell_otn h.op.c2 n5 o y⟩⟩
set_option maxRecDepth 100000 in
set_option maxHeartbeats 8000000 in
theorem unewScope_any (L : List Dc) (hl : errsD [] L = []) (p : Option Addr) (b off c : Nat) (w : World) (hS : SlR w p b off L.length 8 (L.map dC)) :
  Calls Try.prog 37 #[.slice p L.length c] w fun e w' => ∃ m1 m2 fb p1 p2, e = .returned (.agg #[.map (some m1), .map (some m2)]) ∧ ScR w' L m1 m2 fb p1 p2 ∧ RowKit.Below w.heap.size w w' := by
 have hmm := @run_makeMap Try.prog
 have HS := Lib.hid hS
 have hmax := hS.max
 have HL := Lib.hid (errsD_once L [] hl)
 have KO := Lib.hid uoperators_any
 obtain ⟨W1, hW1⟩ : ∃ W1, W1 = w.alloc (.cells #[.map none, .map none] 72) := ⟨_, rfl⟩
 have B1 := Lib.hid ((Below.refl w.heap.size w).alloc (Nat.le_refl _) (.cells #[.map none, .map none] 72))
 have X1 := Lib.hid (BoxL.new w [.map none, .map none] 72)
 rw [← hW1] at B1
 have X1' : Hid (BoxL W1 w.heap.size [.map none, .map none]) := by rw [hW1]; exact X1.out
 have hs1 : W1.heap.size = w.heap.size + 1 := by rw [hW1]; simp
 have A2 := (Below.refl W1.heap.size W1).alloc (Nat.le_refl _) (.map #[] 0)
 have B2 := Lib.hid (B1.out.trans (A2.mono (by omega)))
 have X2 := Lib.hid (X1'.out.bel (by simp) A2)
 have M2 : Hid (MapF kS .string (W1.alloc (.map #[] 0)) (w.heap.size + 1) (ftF [])) := by
  have := MapF.new kS .string W1
  rw [hs1] at this
  have e : ftF [] = fun _ => none := by funext s; rfl
  rw [e]
  exact this
 clear X1 hS hl A2 X1' B1
 go_enter Try.func37, Try.ntmps37
 go_wp2_with fail
 rw [← hW1]
 clear hW1
 generalize W1.alloc (.map #[] 0) = W2 at *
 go_loopg [9] L.length (fun g v9 wr => ∃ i : Nat, i ≤ L.length ∧ L.length - i ≤ g ∧ v9 = .int .i64 i ∧ Hid (BoxL wr w.heap.size [.map none, .map none]) ∧ Hid (MapF kS .string wr (w.heap.size + 1) (ftF (L.take i))) ∧ Hid (RowKit.Below w.heap.size w wr))
 case atStart => exact ⟨0, Nat.zero_le _, by omega, by simp, X2, M2, B2⟩
 case round =>
  obtain ⟨i, hi, hg, rfl, HX, HM, HW⟩ := hrel
  have hws := HW.out.size
  by_cases hlt : i < L.length
  ·have hz : (i : Int) < (L.length : Int) := by omega
   have hq := HS.out.ptr (by omega)
   subst hq
   have hr := (HS.out.bel HW.out).at_ i (dC L[i]) (by rw [List.getElem?_map, List.getElem?_eq_getElem hlt]; rfl)
   have htk : L.take (i + 1) = L.take i ++ [L[i]] := by rw [List.take_succ_eq_append_getElem hlt]
   have hon := HL.out i hlt
   rw [List.nil_append] at hon
   have A3 := (Below.refl wr.heap.size wr).alloc (Nat.le_refl _) (.cells (dC L[i]).toArray 47)
   obtain ⟨ob, hrs, hM⟩ := (HM.out.bel A3).update und_fts und_str L[i].nm (by trivial) (fun x hx => kS_inj _ _ hx) (uV L[i].u)
   rw [ftF_snoc _ _ hon, ← htk] at hM
   have M3 := Lib.hid hM
   have B3 : Hid (RowKit.Below w.heap.size w { (wr.alloc (.cells (dC L[i]).toArray 47)) with heap := (wr.alloc (.cells (dC L[i]).toArray 47)).heap.setIfInBounds (w.heap.size + 1) ob }) := below_set (HW.out.trans (A3.mono (by omega))) (by omega) ob
   have X3 : Hid (BoxL { (wr.alloc (.cells (dC L[i]).toArray 47)) with heap := (wr.alloc (.cells (dC L[i]).toArray 47)).heap.setIfInBounds (w.heap.size + 1) ob } w.heap.size [.map none, .map none]) := (HX.out.bel (by simp) A3).of (by simp)
   clear hM htk hon A3
   generalize L[i] = d at *
   obtain ⟨nm, ⟨uf, um, ua, ud⟩, lo, hi', pl⟩ := d
   simp only [dC, uV, uC, kS] at hr hrs M3 B3 X3
   have hc := hr.2
   have z0 := hc 0 _ rfl
   have z1 := hc 1 _ rfl
   have z2 := hc 2 _ rfl
   have z3 := hc 3 _ rfl
   have z4 := hc 4 _ rfl
   have z5 := hc 5 _ rfl
   have z6 := hc 6 _ rfl
   have z7 := hc 7 _ rfl
   rw [Nat.add_zero] at z0
   have e2 : IntKind.i64.wrap ((i : Int) + 1) = ((i + 1 : Nat) : Int) := by rw [IntWalk.i64_in _ (by omega)]; rfl
   clear hc hr
   generalize bs nm = s at *
   go_wp2_with ((with_reducible show wpList _ _ _ ({ dst := none, op := .mapUpdate _ _ _ _, type := _, pos := _, after := _, guard := _ } :: _) _ _); refine wl_mapset _ _ _ rfl rfl rfl rfl rfl hrs ?_)
   go_roundg (L.length - (i + 1))
   case measure => omega
   case rel => exact ⟨i + 1, by omega, Nat.le_refl _, by simp, X3, M3, B3⟩
  ·have hz : ¬ (i : Int) < (L.length : Int) := by omega
   have hie : i = L.length := by omega
   subst hie
   rw [List.take_length] at HM
   go_wp2_with fail
   refine (KO.out _).mono ?_
   rintro _ V ⟨m2, fb, p1, p2, rfl, hop, hb⟩
   have X4 := Lib.hid (HX.out.bel (by simp) hb)
   have R4 : Hid (ScR V L (w.heap.size + 1) m2 fb p1 p2) := ⟨HM.out.bel hb, hop⟩
   have hnf : ∀ j, (j = w.heap.size + 1 ∨ j = m2 ∨ j = fb ∨ j = p1 ∨ j = p2) → j ≠ w.heap.size := by
    obtain ⟨x0, -⟩ := X4.out 0 _ rfl
    rintro j (rfl | rfl | rfl | rfl | rfl) e
    ·omega
    ·obtain ⟨es, cl, h, -⟩ := R4.out.op.mp
     rw [e] at h
     simp [World.cell?, h] at x0
    ·have := R4.out.op.fl.f0
     rw [e, x0] at this
     cases this
    ·have := R4.out.op.c1
     rw [e, x0] at this
     cases this
    ·have := R4.out.op.c2
     rw [e, x0] at this
     cases this
   have B4 := Lib.hid (HW.out.trans (hb.mono HW.out.size))
   clear hop hb HX HM HW
   obtain ⟨x0, f0⟩ := X4.out 0 _ rfl
   obtain ⟨x1, f1⟩ := X4.out 1 _ rfl
   have R5 := Lib.hid ((R4.out.setn (hnf _ (.inl rfl)) (hnf _ (.inr (.inl rfl))) (hnf _ (.inr (.inr (.inl rfl)))) (hnf _ (.inr (.inr (.inr (.inl rfl))))) (hnf _ (.inr (.inr (.inr (.inr rfl))))) 0 (.map (some (w.heap.size + 1)))).setn (hnf _ (.inl rfl)) (hnf _ (.inr (.inl rfl))) (hnf _ (.inr (.inr (.inl rfl)))) (hnf _ (.inr (.inr (.inr (.inl rfl))))) (hnf _ (.inr (.inr (.inr (.inr rfl))))) 1 (.map (some m2)))
   clear hnf R4
   go_wp2_with fail
   exact bodyPost_ret (v := .agg #[.map (some (w.heap.size + 1)), .map (some m2)]) (by simp [results, Try.results37, go_sem, x0, x1]) rfl ⟨_, _, _, _, _, rfl, R5.out, (by repeat' (first | (with_reducible exact B4.out) | (with_reducible refine Below.setCell ?_ ?_ _) | (with_reducible refine Below.alloc ?_ ?_ _) | (with_reducible refine Below.drew ?_) | (with_reducible refine below_drewN ?_ _) | (with_reducible exact Below.refl _ _) | omega | (simp; done) | (simp; omega)))⟩
end Go.Proofs.Ytoaonficdkgfiaa
namespace Go.Proofs.Ytoaonficdkgfiaa
open Go.RowKit Un

theorem At2.put {w : World} {b : Nat} {x0 x1 : Value} (h : At2 w b x0 x1) (y0 y1 : Value) : At2 ((w.setCell ⟨b, 0, none⟩ y0).setCell ⟨b, 1, none⟩ y1) b y0 y1 := by
 obtain ⟨c0, c1, f0, f1⟩ := h
 exact ⟨by simp [go_sem, c0], by simp [go_sem, c1], by simp [World.frozen?_setCell, f0], by simp [World.frozen?_setCell, f1]⟩
set_option maxRecDepth 100000 in
set_option maxHeartbeats 2000000 in
theorem wp_act {P : Program} {c : Code} {Q : Exit → Act → World → Prop} {a a' : Act} {w : World} (h : a = a') (k : c.wp P Q a' w) : c.wp P Q a w := h ▸ k
theorem passert_nil (w : World) : (Instr.typeAssert .nilIface 20 83 true).run Try.prog w = .ok (.tuple #[.agg #[.int .i64 0, .int .i64 0], .bool false]) w := by kernel_rfl
theorem passert_fail (a E : Int) (w : World) : (Instr.typeAssert (.iface 83 (.agg #[.int .i64 a, .int .i64 E])) 20 83 true).run Try.prog w = .ok (.tuple #[.agg #[.int .i64 a, .int .i64 E], .bool true]) w := by kernel_rfl
set_option maxRecDepth 10000 in
theorem pcatch_idle (p1 : Value) (w : World) :
  CallsD Try.prog 53 #[p1] .returning w fun e u' w' => e = .returned (.tuple #[]) ∧ u' = .returning ∧ RowKit.Below w.heap.size w w' := by
 refine callsD_of_wpS Try.func53 rfl fun c₀ cs hu => ?_
 apply wpS_seq
 apply wpS_region
 simp [wpOpsS, go_sem, recoverD, hu, Try.ntmps53, Exit.thenS, passert_nil]
 apply wpS_seq
 apply wpS_region
 simp [wpOpsS, go_sem, Exit.thenS]
 refine wpS_cond (t := false) (by simp [Act.eval, Array.replicate]) ?_
 simp only [Bool.false_eq_true, if_false]
 refine wpS_of_wp (wp_skip ?_)
 cases c₀
 simp_all [bodyPostS, results, Try.results53]
 exact (Below.refl _ _).alloc (Nat.le_refl _) _
set_option maxRecDepth 100000 in
set_option maxHeartbeats 1000000 in
theorem pcatch (b0 : Nat) (a E : Int) (x0 x1 : Value) (w : World) (h : At2 w b0 x0 x1) :
  CallsD Try.prog 53 #[.pointer (some ⟨b0, 0, none⟩)] (.panicking (failU E a)) w fun e u' w' =>
   e = .returned (.tuple #[]) ∧ u' = .panicking [{ v := .iface 83 (.agg #[.int .i64 a, .int .i64 E]), recovered := true }] ∧
   At2 w' b0 (.int .i64 a) (.int .i64 E) ∧ Kept b0 w w' := by
 have hlt : b0 < w.heap.size := h.lt
 refine callsD_of_wpS Try.func53 rfl fun c₀ cs hu => ?_
 unfold failU at hu
 apply wpS_seq
 apply wpS_region
 simp [wpOpsS, go_sem, recoverD, hu, Try.ntmps53, Exit.thenS, passert_fail]
 apply wpS_seq
 apply wpS_region
 simp [wpOpsS, go_sem, Exit.thenS]
 refine wpS_cond (t := true) (by simp [Act.eval, Array.replicate]) ?_
 simp only [if_true]
 refine wpS_of_wp ?_
 refine wp_act (a' := { tmps := #[.pointer (some ⟨b0, 0, none⟩), .pointer (some ⟨w.heap.size, 0, none⟩), .bool true, .tuple #[.agg #[.int .i64 a, .int .i64 E], .bool true], .iface 83 (.agg #[.int .i64 a, .int .i64 E]), .tuple #[.agg #[.int .i64 a, .int .i64 E], .bool true], .agg #[.int .i64 a, .int .i64 E], .bool true, .bool true, undef], defers := [] }) (by kernel_rfl) ?_
 have hB : RowKit.Below w.heap.size w (w.alloc (.cells #[.int .i64 a, .int .i64 E] 83)) := (Below.refl _ _).alloc (Nat.le_refl _) _
 have e0 : (w.alloc (.cells #[.int .i64 a, .int .i64 E] 83)).cell? ⟨w.heap.size, 0, none⟩ = some (.int .i64 a) := by simp
 have e1 : (w.alloc (.cells #[.int .i64 a, .int .i64 E] 83)).cell? ⟨w.heap.size, 1, none⟩ = some (.int .i64 E) := by simp
 have H := Lib.hid (h.bel hB)
 obtain ⟨h0, h1, f0, f1⟩ := H.out
 have HB := Lib.hid hB
 have n0 : ¬ w.heap.size = b0 := by omega
 clear hB h
 generalize hg : w.heap.size = g at *
 generalize w.alloc (.cells #[.int .i64 a, .int .i64 E] 83) = W at *
 go_wp2_with fail
 refine ⟨rfl, _, rfl, .tuple #[], by simp [results, Try.results53], rfl, rfl, ?_, ?_⟩
 ·exact ⟨by simp [go_sem, h0], by simp [go_sem, h1], by simp [World.frozen?_setCell, f0], by simp [World.frozen?_setCell, f1]⟩
 ·exact ((Kept.of (by rw [hg]; exact HB.out)).setCell 0 none _).setCell 1 none _
theorem setCell_self {w : World} {b o : Nat} {v : Value} (h : w.cell? ⟨b, o, none⟩ = some v) : (w.setCell ⟨b, o, none⟩ v).heap[b]? = w.heap[b]? := by
 unfold World.cell? at h
 simp only [World.setCell, Array.getElem?_modify, if_true]
 simp only at h
 cases hb : w.heap[b]? with
 | none => rfl
 | some x =>
  rw [hb] at h
  cases x with
  | cells c e f =>
   replace h : c[o]? = some v := by simpa using h
   rw [Option.map_some]
   congr 1
   show Obj.cells (if (none : Option Nat).isSome then c else c.setIfInBounds o v) e f = _
   rw [if_neg (by simp)]
   congr 1
   obtain ⟨ho, hv⟩ := Array.getElem?_eq_some_iff.1 h
   subst hv
   apply Array.ext_getElem?
   intro i
   rw [Array.getElem?_setIfInBounds]
   split
   ·rename_i e; subst e; exact h.symm
   ·rfl
  | _ => simp at h
theorem At2.same {w : World} {b : Nat} {x y : Value} (h : At2 w b x y) : RowKit.Below w.heap.size w ((w.setCell ⟨b, 0, none⟩ x).setCell ⟨b, 1, none⟩ y) := by
 refine ⟨rfl, rfl, rfl, by simp [World.setCell], fun k hk => ?_⟩
 by_cases e : k = b
 ·subst e
  refine (setCell_self ?_).trans (setCell_self h.c0)
  rw [World.cell?_setCell_other _ _ _ _ (by intro e; injection e with _ e2 _; cases e2)]
  exact h.c1
 ·exact (Below.heap_setCell _ _ _ _ e).trans (Below.heap_setCell _ _ _ _ e)
set_option maxRecDepth 100000 in
set_option maxHeartbeats 2000000 in
theorem uerrorOf_okB (F : FuncId) (caps : Array Value) (hE : ∀ (args : Array Value) (w : World), (callFunc F args).run Try.prog w = .ok (.enter F args) w) (Q : World → Prop) (w : World)
  (HR : Calls Try.prog F caps (w.alloc (.cells #[.int .i64 0, .int .i64 0] 66)) fun e w' => e = .returned (.tuple #[]) ∧ At2 w' w.heap.size (.int .i64 0) (.int .i64 0) ∧ Q w') :
  Calls Try.prog 35 #[.func (.func F) #[] caps] w fun e w' => e = .returned (.agg #[.int .i64 0, .int .i64 0]) ∧ ∃ w2, Q w2 ∧ RowKit.Below w2.heap.size w2 w' := by
 have hmf : ∀ (fn : Fn) (first cap : Array Value) (w : World), (Instr.makeFunc fn first cap).run Try.prog w = .ok (.func fn first cap) w := fun _ _ _ _ => rfl
 have KR := Lib.hid HR
 clear HR
 go_enter_defers Try.func35, Try.ntmps35
 go_wp2_with fail
 refine KR.out.mono ?_
 rintro _ w2 ⟨rfl, hA, hQ⟩
 have HQ := Lib.hid hQ
 have HA := Lib.hid hA
 obtain ⟨c0, c1, f0, f1⟩ := hA
 clear hQ KR
 go_wp2_with fail
 refine leaves_cons (f := 53) (args := #[.pointer (some ⟨w.heap.size, 0, none⟩)]) (by simp) (by simp [go_sem]) ?_
 refine (pcatch_idle _ _).mono ?_
 rintro e u' w3 ⟨rfl, rfl, hB⟩
 obtain ⟨d0, d1, -, -⟩ := (HA.out.put (.int .i64 0) (.int .i64 0)).bel hB
 simp [Leaves, settle, results, Try.results35, go_sem, d0, d1]
 exact ⟨w2, HQ.out, HA.out.same.trans (hB.mono HA.out.same.size)⟩
theorem uerrorOf_ok (F : FuncId) (caps : Array Value) (hE : ∀ (args : Array Value) (w : World), (callFunc F args).run Try.prog w = .ok (.enter F args) w) (Q : World → Prop) (w : World)
  (HR : Calls Try.prog F caps (w.alloc (.cells #[.int .i64 0, .int .i64 0] 66)) fun e w' => e = .returned (.tuple #[]) ∧ At2 w' w.heap.size (.int .i64 0) (.int .i64 0) ∧ Q w') :
  Calls Try.prog 35 #[.func (.func F) #[] caps] w fun e w' => e = .returned (.agg #[.int .i64 0, .int .i64 0]) ∧ ∃ w2, Q w2 ∧ Kept w.heap.size w2 w' :=
 (uerrorOf_okB F caps hE Q w HR).mono fun _ _ h => ⟨h.1, h.2.imp fun _ h => ⟨h.1, Kept.of h.2⟩⟩
set_option maxRecDepth 100000 in
set_option maxHeartbeats 2000000 in
theorem uerrorOf_er (F : FuncId) (caps : Array Value) (hE : ∀ (args : Array Value) (w : World), (callFunc F args).run Try.prog w = .ok (.enter F args) w) (E a : Int) (Q : World → Prop) (w : World)
  (HR : Calls Try.prog F caps (w.alloc (.cells #[.int .i64 0, .int .i64 0] 66)) fun e w' => e = .panicked (failU E a) ∧ At2 w' w.heap.size (.int .i64 0) (.int .i64 0) ∧ Q w') :
  Calls Try.prog 35 #[.func (.func F) #[] caps] w fun e w' => e = .returned (.agg #[.int .i64 a, .int .i64 E]) ∧ ∃ w2, Q w2 ∧ Kept w.heap.size w2 w' := by
 have hmf : ∀ (fn : Fn) (first cap : Array Value) (w : World), (Instr.makeFunc fn first cap).run Try.prog w = .ok (.func fn first cap) w := fun _ _ _ _ => rfl
 have KR := Lib.hid HR
 clear HR
 go_enter_defers Try.func35, Try.ntmps35
 go_wp2_with fail
 refine KR.out.mono ?_
 rintro _ w2 ⟨rfl, hA, hQ⟩
 have HQ := Lib.hid hQ
 have HA := Lib.hid hA
 clear hQ hA KR
 go_wp2_with fail
 refine leaves_cons (f := 53) (args := #[.pointer (some ⟨w.heap.size, 0, none⟩)]) (by simp) (by simp [go_sem]) ?_
 refine (pcatch w.heap.size a E _ _ _ HA.out).mono ?_
 rintro e u' w3 ⟨rfl, rfl, ⟨d0, d1, -, -⟩, hB⟩
 simp [Leaves, settle, results, Try.results35, go_sem, d0, d1]
 exact ⟨w2, HQ.out, hB⟩
end Go.Proofs.Ytoaonficdkgfiaa
namespace Go.Proofs.Ytoaonficdkgfiaa
open Go.RowKit Un MapKept

def zs (n : Nat) : List Value := (List.replicate n [Value.bool false, .int .i64 0, .int .i64 0, .int .i64 0]).flatten
theorem zs_succ (n : Nat) : zs (n + 1) = .bool false :: .int .i64 0 :: .int .i64 0 :: .int .i64 0 :: zs n := by simp [zs, List.replicate_succ]
theorem run_mkU (n : Nat) (hn : n ≤ 3) (w : World) : (Instr.makeSlice 88 (.int .i64 (n : Nat)) (.int .i64 (n : Nat))).run Try.prog w = .ok (.slice (some ⟨w.heap.size, 0, none⟩) n n) (w.alloc (.cells (zs n).toArray 29)) := by
 obtain rfl | rfl | rfl | rfl : n = 0 ∨ n = 1 ∨ n = 2 ∨ n = 3 := by omega
 all_goals (clear hn; kernel_rfl)
theorem wl_mk {P : Program} {ops : Array Oper} {rest : List Oper} {o : Oper} {a : Act} {w w' : World} {Q : Exit → Act → World → Prop} {T : TypeId} {v vl vc : Value} (l c : Operand) (hgd : o.guard = none) (ho : o.op = .makeSlice T l c) (hl : a.eval l = vl) (hc : a.eval c = vc) (hr : (Instr.makeSlice T vl vc).run P w = .ok v w') (h : wpList P ops Q rest (a.put o.dst v) w') : wpList P ops Q (o :: rest) a w := wpList_plain hgd fun _ hK => by
 unfold Oper.wp execOp
 simp only [ho, Sem.run_bind, Sem.run_pure, hl, hc, hr]
 exact hK _ _ h
theorem zero_fn (w : World) : (zeroValue 90).run Try.prog w = .ok .nilFunc w := by kernel_rfl
def flat4 (us : List U) : List Value := (us.map uC).flatten
theorem flat4_len (us : List U) : (flat4 us).length = us.length * 4 := by
 induction us with
 | nil => rfl
 | cons u us ih =>
  have : flat4 (u :: us) = uC u ++ flat4 us := rfl
  rw [this, List.length_append, ih]; simp [uC]; omega
theorem flat4_snoc (us : List U) (u : U) : flat4 (us ++ [u]) = flat4 us ++ uC u := by simp [flat4]
theorem flat4_get (us : List U) (R : List Value) : ∀ (i : Nat) (h : i < us.length) (j : Nat), j < 4 → (flat4 us ++ R)[i * 4 + j]? = (uC us[i])[j]? := by
 induction us with
 | nil => intro i h; exact absurd h (Nat.not_lt_zero _)
 | cons u us ih =>
  intro i h j hj
  have e : flat4 (u :: us) ++ R = uC u ++ (flat4 us ++ R) := by show (uC u ++ flat4 us) ++ R = _; rw [List.append_assoc]
  rw [e]
  cases i with
  | zero =>
   rw [List.getElem?_append_left (by simp [uC]; omega)]
   simp
  | succ i =>
   rw [List.getElem?_append_right (by simp [uC]; omega)]
   have : (i + 1) * 4 + j - (uC u).length = i * 4 + j := by simp [uC]; omega
   rw [this, ih i (by simpa using h) j hj]
   simp
theorem set4 (A R : List Value) (x0 x1 x2 x3 y0 y1 y2 y3 : Value) (a : Nat) (h : A.length = a) : ((((A ++ x0 :: x1 :: x2 :: x3 :: R).set a y0).set (a + 1) y1).set (a + 2) y2).set (a + 3) y3 = A ++ y0 :: y1 :: y2 :: y3 :: R := by
 subst h
 simp
theorem flat_slr {w : World} {ob : Nat} {us : List U} {n : Nat} (h : BoxL w ob (flat4 us)) (hn : us.length = n) (hl : n ≤ 3) (ho : ob < w.heap.size) : SlR w (some ⟨ob, 0, none⟩) ob 0 us.length 4 (us.map uC) := by
 subst hn
 refine ⟨by simp, fun _ => rfl, fun i r hr => ?_, fun _ => ho, by omega⟩
 rw [List.getElem?_map] at hr
 obtain ⟨u, hu, rfl⟩ := Option.map_eq_some_iff.1 hr
 obtain ⟨hi, rfl⟩ := List.getElem?_eq_some_iff.1 hu
 refine ⟨rfl, fun j v hv => ?_⟩
 rw [Nat.zero_add]
 have hj : j < 4 := by have := (List.getElem?_eq_some_iff.1 hv).1; simpa [uC] using this
 have := flat4_get us [] i hi j hj
 rw [List.append_nil] at this
 exact (h _ v (by rw [this]; exact hv)).1
/-- What the unit of an expression comes out as. -/
def GotE (g : Got) (e : Ending) : Prop := match g with | .ok u => e = .returned (uV u) | .er E p => e = .panicked (failU E p)
end Go.Proofs.Ytoaonficdkgfiaa
namespace Go.Proofs.Ytoaonficdkgfiaa
open Go.RowKit Un MapKept

theorem box_new {w : World} {n : Nat} (l : List Value) (T : TypeId) (h : w.heap.size = n) : BoxL (w.alloc (.cells l.toArray T)) n l := h ▸ BoxL.new w l T
theorem box10 {w : World} {b : Nat} {x0 x1 x2 x3 x4 x5 x6 x7 x8 x9 : Value} (h : BoxL w b [x0, x1, x2, x3, x4, x5, x6, x7, x8, x9]) : w.cell? ⟨b, 0, none⟩ = some x0 ∧ w.cell? ⟨b, 1, none⟩ = some x1 ∧ w.cell? ⟨b, 2, none⟩ = some x2 ∧ w.cell? ⟨b, 3, none⟩ = some x3 ∧ w.cell? ⟨b, 4, none⟩ = some x4 ∧ w.cell? ⟨b, 5, none⟩ = some x5 ∧ w.cell? ⟨b, 6, none⟩ = some x6 ∧ w.cell? ⟨b, 7, none⟩ = some x7 ∧ w.cell? ⟨b, 8, none⟩ = some x8 ∧ w.cell? ⟨b, 9, none⟩ = some x9 := ⟨(h 0 _ rfl).1, (h 1 _ rfl).1, (h 2 _ rfl).1, (h 3 _ rfl).1, (h 4 _ rfl).1, (h 5 _ rfl).1, (h 6 _ rfl).1, (h 7 _ rfl).1, (h 8 _ rfl).1, (h 9 _ rfl).1⟩
set_option maxRecDepth 100000 in
set_option maxHeartbeats 8000000 in
theorem uunit_num (pl : Int) (nm : ByteArray) (n0 d0 : Int) (u : U) (xq : Option Addr) (kl xc : Nat) (m1 m2 : Nat) (w : World) :
  Calls Try.prog 38 #[.agg #[.map (some m1), .map (some m2)], .agg #[.int .i64 1, .int .i64 pl, .string nm, .int .i64 n0, .int .i64 d0, .bool u.f, .int .i64 u.m, .int .i64 u.a, .int .i64 u.d, .slice xq kl xc]] w fun e w' => GotE (if u.f = true ∨ (u.m ≠ 0 ∧ d0 ≠ 1) then .er 12 pl else .ok u) e ∧ RowKit.Below w.heap.size w w' := by
 have KA := Lib.hid (fun w => uisAmount_any 1 pl nm n0 d0 u xq kl xc w)
 have HE : Hid ((!u.f && (u.m == 0 || d0 == 1)) = true ↔ ¬ (u.f = true ∨ (u.m ≠ 0 ∧ d0 ≠ 1))) := by
  show _ ↔ _
  rw [Bool.and_eq_true, Bool.or_eq_true, Bool.not_eq_true', beq_iff_eq, beq_iff_eq]
  cases u.f <;> simp <;> omega
 obtain ⟨G, hG⟩ : ∃ G, G = if u.f = true ∨ (u.m ≠ 0 ∧ d0 ≠ 1) then Got.er 12 pl else .ok u := ⟨_, rfl⟩
 rw [← hG]
 have HG := Lib.hid hG
 clear hG
 obtain ⟨uf, um, ua, ud⟩ := u
 simp only at KA HE HG
 generalize (!uf && (um == 0 || d0 == 1)) = R at *
 obtain ⟨W1, hW1⟩ : ∃ W1, W1 = w.alloc (.cells #[.map (some m1), .map (some m2)] 72) := ⟨_, rfl⟩
 have a1 := (Below.refl w.heap.size w).alloc (Nat.le_refl _) (.cells #[.map (some m1), .map (some m2)] 72)
 rw [← hW1] at a1
 have s1 : W1.heap.size = w.heap.size + 1 := by rw [hW1]; simp
 obtain ⟨W2, hW2⟩ : ∃ W2, W2 = W1.alloc (.cells #[.int .i64 1, .int .i64 pl, .string nm, .int .i64 n0, .int .i64 d0, .bool uf, .int .i64 um, .int .i64 ua, .int .i64 ud, .slice xq kl xc] 32) := ⟨_, rfl⟩
 have a2 := (Below.refl W1.heap.size W1).alloc (Nat.le_refl _) (.cells #[.int .i64 1, .int .i64 pl, .string nm, .int .i64 n0, .int .i64 d0, .bool uf, .int .i64 um, .int .i64 ua, .int .i64 ud, .slice xq kl xc] 32)
 rw [← hW2] at a2
 have x2 : BoxL W2 (w.heap.size + 1) [.int .i64 1, .int .i64 pl, .string nm, .int .i64 n0, .int .i64 d0, .bool uf, .int .i64 um, .int .i64 ua, .int .i64 ud, .slice xq kl xc] := by rw [hW2]; exact box_new _ _ s1
 have s2 : W2.heap.size = w.heap.size + 2 := by rw [hW2]; simp; omega
 obtain ⟨W3, hW3⟩ : ∃ W3, W3 = W2.alloc (.cells #[.bool false, .int .i64 0, .int .i64 0, .int .i64 0] 29) := ⟨_, rfl⟩
 have a3 := (Below.refl W2.heap.size W2).alloc (Nat.le_refl _) (.cells #[.bool false, .int .i64 0, .int .i64 0, .int .i64 0] 29)
 rw [← hW3] at a3
 have x3 : BoxL W3 (w.heap.size + 2) [.bool false, .int .i64 0, .int .i64 0, .int .i64 0] := by rw [hW3]; exact box_new _ _ s2
 have X2 := Lib.hid (x2.bel (by simp) a3)
 have X3 := Lib.hid x3
 have B3 := Lib.hid ((a1.trans (a2.mono (by omega))).trans (a3.mono (by omega)))
 clear x2 x3 a1 a2 a3 s1 s2
 obtain ⟨c0, c1, c2, c3, c4, c5, c6, c7, c8, c9⟩ := box10 X2.out
 go_enter Try.func38, Try.ntmps38
 go_wp2_with fail
 rw [← hW1, ← hW2, ← hW3]
 clear hW1 hW2 hW3
 have hS : W3.drew.cell? ⟨w.heap.size + 1, 0, none⟩ = some (.int .i64 1) ∧ W3.drew.cell? ⟨w.heap.size + 1, 1, none⟩ = some (.int .i64 pl) ∧ W3.drew.cell? ⟨w.heap.size + 1, 2, none⟩ = some (.string nm) ∧ W3.drew.cell? ⟨w.heap.size + 1, 3, none⟩ = some (.int .i64 n0) ∧ W3.drew.cell? ⟨w.heap.size + 1, 4, none⟩ = some (.int .i64 d0) ∧ W3.drew.cell? ⟨w.heap.size + 1, 5, none⟩ = some (.bool uf) ∧ W3.drew.cell? ⟨w.heap.size + 1, 6, none⟩ = some (.int .i64 um) ∧ W3.drew.cell? ⟨w.heap.size + 1, 7, none⟩ = some (.int .i64 ua) ∧ W3.drew.cell? ⟨w.heap.size + 1, 8, none⟩ = some (.int .i64 ud) ∧ W3.drew.cell? ⟨w.heap.size + 1, 9, none⟩ = some (.slice xq kl xc) := ⟨c0, c1, c2, c3, c4, c5, c6, c7, c8, c9⟩
 refine wp_region_held (S := fun w' : World => w'.cell? ⟨w.heap.size + 1, 0, none⟩ = some (.int .i64 1) ∧ w'.cell? ⟨w.heap.size + 1, 1, none⟩ = some (.int .i64 pl) ∧ w'.cell? ⟨w.heap.size + 1, 2, none⟩ = some (.string nm) ∧ w'.cell? ⟨w.heap.size + 1, 3, none⟩ = some (.int .i64 n0) ∧ w'.cell? ⟨w.heap.size + 1, 4, none⟩ = some (.int .i64 d0) ∧ w'.cell? ⟨w.heap.size + 1, 5, none⟩ = some (.bool uf) ∧ w'.cell? ⟨w.heap.size + 1, 6, none⟩ = some (.int .i64 um) ∧ w'.cell? ⟨w.heap.size + 1, 7, none⟩ = some (.int .i64 ua) ∧ w'.cell? ⟨w.heap.size + 1, 8, none⟩ = some (.int .i64 ud) ∧ w'.cell? ⟨w.heap.size + 1, 9, none⟩ = some (.slice xq kl xc)) mixed ?_
 change wpAnyH _ _ _ _ _ _ _ _ W3.drew
 refine tk0 (v := ?_) (by kernel_rfl) (by kernel_rfl) (by kernel_rfl) (fun _ _ _ h => h) (Or.inl ⟨by rfl, ?_⟩) hS ?_
 rotate_left
 ·(intro w hSw; (try dsimp only at hSw); go_simp; try with_reducible rfl)
 simp only [Act.put, zA, zB, zC]
 refine tk2 (v := ?_) (by kernel_rfl) (by kernel_rfl) (by kernel_rfl) (fun _ _ _ h => h) (Or.inl ⟨by rfl, ?_⟩) hS ?_
 rotate_left
 ·(intro w hSw; (try dsimp only at hSw); go_simp; try with_reducible rfl)
 simp only [Act.put, zA, zB, zC]
 refine tk3 (v := ?_) (by kernel_rfl) (by kernel_rfl) (by kernel_rfl) (fun _ _ _ h => h) (Or.inl ⟨by rfl, ?_⟩) hS ?_
 rotate_left
 ·(intro w hSw; (try dsimp only at hSw); go_simp; try with_reducible rfl)
 simp only [Act.put, zA, zB, zC]
 refine wpAnyH_ready (rs := [1]) (by kernel_rfl) (by simp) (st1 (fun K hK => ?_) AllReadyH.nil)
 go_simp
 refine (KA.out _).mono ?_
 rintro _ v ⟨rfl, hb⟩
 have hb := (Below.refl W3.heap.size W3).drew.trans hb
 have X4 := Lib.hid (X2.out.bel (by simp) hb)
 have Y4 := Lib.hid (X3.out.bel (by simp) hb)
 have B4 := Lib.hid (B3.out.trans (hb.mono B3.out.size))
 clear hb X2 X3 B3 KA hS c0 c1 c2 c3 c4 c5 c6 c7 c8 c9
 obtain ⟨c0, c1, c2, c3, c4, c5, c6, c7, c8, c9⟩ := box10 X4.out
 obtain ⟨r0, r1, r2, r3, g0, g1, g2, g3⟩ := box4 Y4.out
 go_wp2_with fail
 refine hK.out _ _ ?_ (fun hHeld => ?_)
 ·exact ⟨c0, c1, c2, c3, c4, c5, c6, c7, c8, c9⟩
 clear hK K
 try simp only [Act.put, zA, zB, zC]
 refine wpAnyH_ready (rs := [4]) (by kernel_rfl) (by simp) (st4 (fun K hK => ?_) AllReadyH.nil)
 by_cases hc : uf = true ∨ (um ≠ 0 ∧ d0 ≠ 1)
 ·have hR : R = false := by
   cases R with
   | false => rfl
   | true => exact absurd hc (HE.out.1 rfl)
  subst hR
  have HG2 : Hid (G = .er 12 pl) := by show _ = _; rw [HG.out, if_pos hc]
  go_simp
  refine (uneed_er 12 pl _).mono ?_
  rintro _ v2 ⟨rfl, rfl⟩
  go_wp2_with fail
  exact bodyPost_panic rfl ⟨by rw [HG2.out]; rfl, B4.out⟩
 ·have hR : R = true := HE.out.2 hc
  subst hR
  have HG2 : Hid (G = .ok ⟨uf, um, ua, ud⟩) := by show _ = _; rw [HG.out, if_neg hc]
  go_simp
  refine (uneed_ok 12 pl _).mono ?_
  rintro _ v2 ⟨rfl, rfl⟩
  go_wp2_with fail
  refine hK.out _ _ ?_ (fun hHeld => ?_)
  ·exact ⟨c0, c1, c2, c3, c4, c5, c6, c7, c8, c9⟩
  clear hK K
  try simp only [Act.put, zA, zB, zC]
  refine wpAnyH_done (by kernel_rfl) ?_ _
  go_wp2_with fail
  exact bodyPost_ret (v := .agg #[.bool uf, .int .i64 um, .int .i64 ua, .int .i64 ud]) (by simp [results, Try.results38, go_sem, r0, r1, r2, r3]) rfl ⟨by rw [HG2.out]; rfl, (by repeat' (first | (with_reducible exact B4.out) | (with_reducible refine Below.setCell ?_ ?_ _) | (with_reducible refine Below.alloc ?_ ?_ _) | (with_reducible refine Below.drew ?_) | (with_reducible refine below_drewN ?_ _) | (with_reducible exact Below.refl _ _) | omega | (simp; done) | (simp; omega)))⟩
end Go.Proofs.Ytoaonficdkgfiaa
namespace Go.Proofs.Ytoaonficdkgfiaa
open Go.RowKit Un MapKept

set_option maxRecDepth 100000 in
set_option maxHeartbeats 8000000 in
theorem uunit_fact (L : List Dc) (pl : Int) (nm : List UInt8) (n0 d0 : Int) (u : U) (xq : Option Addr) (kl xc : Nat) (m1 m2 : Nat) (w : World) (hm : MapF kS .string w m1 (ftF L)) :
  Calls Try.prog 38 #[.agg #[.map (some m1), .map (some m2)], .agg #[.int .i64 2, .int .i64 pl, .string (bs nm), .int .i64 n0, .int .i64 d0, .bool u.f, .int .i64 u.m, .int .i64 u.a, .int .i64 u.d, .slice xq kl xc]] w fun e w' => GotE (match Un.look (Un.facts L) nm with | some u => .ok u | none => .er 11 pl) e ∧ RowKit.Below w.heap.size w w' := by
 obtain ⟨uf, um, ua, ud⟩ := u
 have HA := Lib.hid (fun (V : World) (h : MapF kS .string V m1 (ftF L)) => MapF.ask (w := V) h und_fts und_str nm (by trivial) true (uV uNum) (zero_unit V))
 simp only [kS, ftF] at HA
 generalize bs nm = s at *
 obtain ⟨W1, hW1⟩ : ∃ W1, W1 = w.alloc (.cells #[.map (some m1), .map (some m2)] 72) := ⟨_, rfl⟩
 have a1 := (Below.refl w.heap.size w).alloc (Nat.le_refl _) (.cells #[.map (some m1), .map (some m2)] 72)
 rw [← hW1] at a1
 have s1 : W1.heap.size = w.heap.size + 1 := by rw [hW1]; simp
 obtain ⟨W2, hW2⟩ : ∃ W2, W2 = W1.alloc (.cells #[.int .i64 2, .int .i64 pl, .string s, .int .i64 n0, .int .i64 d0, .bool uf, .int .i64 um, .int .i64 ua, .int .i64 ud, .slice xq kl xc] 32) := ⟨_, rfl⟩
 have a2 := (Below.refl W1.heap.size W1).alloc (Nat.le_refl _) (.cells #[.int .i64 2, .int .i64 pl, .string s, .int .i64 n0, .int .i64 d0, .bool uf, .int .i64 um, .int .i64 ua, .int .i64 ud, .slice xq kl xc] 32)
 rw [← hW2] at a2
 have x2 : BoxL W2 (w.heap.size + 1) [.int .i64 2, .int .i64 pl, .string s, .int .i64 n0, .int .i64 d0, .bool uf, .int .i64 um, .int .i64 ua, .int .i64 ud, .slice xq kl xc] := by rw [hW2]; exact box_new _ _ s1
 have s2 : W2.heap.size = w.heap.size + 2 := by rw [hW2]; simp; omega
 obtain ⟨W3, hW3⟩ : ∃ W3, W3 = W2.alloc (.cells #[.bool false, .int .i64 0, .int .i64 0, .int .i64 0] 29) := ⟨_, rfl⟩
 have a3 := (Below.refl W2.heap.size W2).alloc (Nat.le_refl _) (.cells #[.bool false, .int .i64 0, .int .i64 0, .int .i64 0] 29)
 rw [← hW3] at a3
 have x3 : BoxL W3 (w.heap.size + 2) [.bool false, .int .i64 0, .int .i64 0, .int .i64 0] := by rw [hW3]; exact box_new _ _ s2
 have X2 := Lib.hid (x2.bel (by simp) a3)
 have X3 := Lib.hid x3
 have B3 := Lib.hid ((a1.trans (a2.mono (by omega))).trans (a3.mono (by omega)))
 clear x2 x3 a1 a2 a3 s1 s2
 obtain ⟨c0, c1, c2, c3, c4, c5, c6, c7, c8, c9⟩ := box10 X2.out
 have M3 := Lib.hid (hm.bel (B3.out.mono (Nat.le_refl _)))
 have hlk := HA.out W3 M3.out
 clear hm HA
 go_enter Try.func38, Try.ntmps38
 cases hl : Un.look (Un.facts L) nm with
 | none =>
  rw [hl] at hlk
  simp only [Option.map_none, Option.getD_none, Option.isSome_none, if_true, uV, uC, uNum] at hlk
  have a4 := (Below.refl W3.heap.size W3).alloc (Nat.le_refl _) (.cells #[.bool false, .int .i64 0, .int .i64 0, .int .i64 0] 29)
  have c1' := (a4.cell (p := ⟨w.heap.size + 1, 1, none⟩) (World.block_lt_of_cell? _ _ c1)).trans c1
  have Y4 := Lib.hid (X3.out.bel (by simp) a4)
  have Z4 := Lib.hid (BoxL.new W3 [.bool false, .int .i64 0, .int .i64 0, .int .i64 0] 29)
  have hzz := X3.out.lt (by simp)
  have nz : w.heap.size + 2 ≠ W3.heap.size := by omega
  have B4 := Lib.hid (B3.out.trans (a4.mono B3.out.size))
  clear a4 X2 X3 B3 M3 c0 c3 c4 c5 c6 c7 c8 c9 c1
  go_wp2_with ((with_reducible show wpList _ _ _ ({ dst := some 30, op := _, type := _, pos := _, after := _, guard := _ } :: _) _ _); rw [← hW1, ← hW2, ← hW3]; clear hW1 hW2 hW3; refine wl_lookup _ _ _ rfl rfl rfl rfl hlk ?_)
  refine (uneed_er 11 pl _).mono ?_
  rintro _ v2 ⟨rfl, rfl⟩
  go_wp2_with fail
  exact bodyPost_panic rfl ⟨rfl, B4.out⟩
 | some v =>
  obtain ⟨vf, vm, va, vd⟩ := v
  rw [hl] at hlk
  simp only [Option.map_some, Option.getD_some, Option.isSome_some, if_true, uV, uC] at hlk
  have a4 := (Below.refl W3.heap.size W3).alloc (Nat.le_refl _) (.cells #[.bool vf, .int .i64 vm, .int .i64 va, .int .i64 vd] 29)
  have c1' := (a4.cell (p := ⟨w.heap.size + 1, 1, none⟩) (World.block_lt_of_cell? _ _ c1)).trans c1
  have Y4 := Lib.hid (X3.out.bel (by simp) a4)
  have Z4 := Lib.hid (BoxL.new W3 [.bool vf, .int .i64 vm, .int .i64 va, .int .i64 vd] 29)
  have hzz := X3.out.lt (by simp)
  have nz : w.heap.size + 2 ≠ W3.heap.size := by omega
  have B4 := Lib.hid (B3.out.trans (a4.mono B3.out.size))
  clear a4 X2 X3 B3 M3 c0 c3 c4 c5 c6 c7 c8 c9 c1
  go_wp2_with ((with_reducible show wpList _ _ _ ({ dst := some 30, op := _, type := _, pos := _, after := _, guard := _ } :: _) _ _); rw [← hW1, ← hW2, ← hW3]; clear hW1 hW2 hW3; refine wl_lookup _ _ _ rfl rfl rfl rfl hlk ?_)
  refine (uneed_ok 11 pl _).mono ?_
  rintro _ v2 ⟨rfl, rfl⟩
  obtain ⟨r0, r1, r2, r3, g0, g1, g2, g3⟩ := box4 Y4.out
  obtain ⟨z0, z1, z2, z3, -⟩ := box4 Z4.out
  generalize W3.alloc (.cells #[.bool vf, .int .i64 vm, .int .i64 va, .int .i64 vd] 29) = W4 at *
  go_wp2_with fail
  exact bodyPost_ret (v := .agg #[.bool vf, .int .i64 vm, .int .i64 va, .int .i64 vd]) (by simp [results, Try.results38, go_sem, r0, r1, r2, r3]) rfl ⟨rfl, (by repeat' (first | (with_reducible exact B4.out) | (with_reducible refine Below.setCell ?_ ?_ _) | (with_reducible refine Below.alloc ?_ ?_ _) | (with_reducible refine Below.drew ?_) | (with_reducible refine below_drewN ?_ _) | (with_reducible exact Below.refl _ _) | omega | (simp; done) | (simp; omega)))⟩
end Go.Proofs.Ytoaonficdkgfiaa
