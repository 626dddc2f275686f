/- Texts on units: UOps UDg UFer -/
import Derived.Test.YtoaonficdkgfiaaY09
import Derived.Deep.Onto
namespace Go.Proofs.Ytoaonficdkgfiaa
open Go.RowKit Un MapKept

/-- The operators, by number. -/
def opF (fb p1 p2 : Nat) : Int → Option Value :=
 updF (updF (updF (updF (updF (updF (updF (updF (updF (updF (updF (updF (updF (updF (updF ((fun _ => none)) 3 (.func (.func 72) #[] #[])) 4 (.func (.func 72) #[] #[])) 5 (.func (.func 90) #[] #[.pointer (some ⟨p1, 0, none⟩)])) 6 (.func (.func 90) #[] #[.pointer (some ⟨p2, 0, none⟩)])) 7 (.func (.func 72) #[] #[])) 8 (.func (.func 72) #[] #[])) 9 (.func (.func 73) #[] #[.pointer (some ⟨fb, 0, none⟩)])) 10 (.func (.func 73) #[] #[.pointer (some ⟨fb, 0, none⟩)])) 11 (.func (.func 74) #[] #[.pointer (some ⟨fb, 0, none⟩)])) 12 (.func (.func 74) #[] #[.pointer (some ⟨fb, 0, none⟩)])) 13 (.func (.func 75) #[] #[.pointer (some ⟨fb, 0, none⟩)])) 14 (.func (.func 75) #[] #[.pointer (some ⟨fb, 0, none⟩)])) 15 (.func (.func 75) #[] #[.pointer (some ⟨fb, 0, none⟩)])) 16 (.func (.func 77) #[] #[])) 17 (.func (.func 75) #[] #[.pointer (some ⟨fb, 0, none⟩)])
structure OpB (w0 w : World) (f : Int → Option Value) (ps : List (Nat × Int)) : Prop where
 mp : MapF kI (.int .i64) w (w0.heap.size + 1) f
 fl : FlagM w w0.heap.size
 be : RowKit.Below w0.heap.size w0 w
 pw : ∀ q ∈ ps, w.cell? ⟨q.1, 0, none⟩ = some (.int .i64 q.2) ∧ q.1 ≠ w0.heap.size + 1
theorem OpB.ins {w0 w w' : World} {f : Int → Option Value} {ps : List (Nat × Int)} (h : OpB w0 w f ps) {g : Int → Option Value} (hm : MapF kI (.int .i64) w' (w0.heap.size + 1) g) (hk : Kept (w0.heap.size + 1) w w') : OpB w0 w' g ps :=
 ⟨hm, h.fl.at (hk.block _ h.fl.lt (by omega)), h.be.trans (hk.below (by omega) h.be.size), fun q hq => ⟨(World.cell?_of_block (w := w) (a := ⟨q.1, 0, none⟩) (hk.block _ (World.block_lt_of_cell? _ _ (h.pw q hq).1) (h.pw q hq).2)).trans (h.pw q hq).1, (h.pw q hq).2⟩⟩
theorem OpB.call {w0 w w' : World} {f : Int → Option Value} {ps : List (Nat × Int)} (h : OpB w0 w f ps) {s : Int} (hb : RowKit.Below w.heap.size w w') (hc : w'.cell? ⟨w.heap.size, 0, none⟩ = some (.int .i64 s)) : OpB w0 w' f (ps ++ [(w.heap.size, s)]) :=
 ⟨h.mp.bel hb, h.fl.bel hb, h.be.trans (hb.mono h.be.size), fun q hq => by
  rcases List.mem_append.1 hq with hq | hq
  ·exact ⟨(hb.cell (p := ⟨q.1, 0, none⟩) (World.block_lt_of_cell? _ _ (h.pw q hq).1)).trans (h.pw q hq).1, (h.pw q hq).2⟩
  ·rw [List.mem_singleton.1 hq]
   have := h.mp.lt
   exact ⟨hc, by simp only; omega⟩⟩
theorem und_ops : Try.prog.underlying 70 = some (.map 3 90) := by kernel_rfl
theorem und_int : Try.prog.underlying 3 = some (.int .i64) := by kernel_rfl
theorem wpList_insF {w0 w : World} {ops : Array Oper} {rest : List Oper} {o : Oper} {a : Act} {Q : Exit → Act → World → Prop} {f : Int → Option Value} {ps : List (Nat × Int)} (hg : o.guard = none) (m v : Operand) (k : Int) (x : Value) (hop : o.op = Op.insert 70 m (.const (.int .i64 k)) v)
  (hm : a.eval m = .map (some (w0.heap.size + 1))) (hv : a.eval v = x) (h : OpB w0 w f ps)
  (hK : ∀ w', OpB w0 w' (updF f k x) ps → wpList Try.prog ops Q rest (a.put o.dst undef) w') :
  wpList Try.prog ops Q (o :: rest) a w := by
 refine wpList_plain hg fun K' hK' => ?_
 obtain ⟨ob, hr, hm2⟩ := h.mp.update und_ops und_int k (by rfl) (fun x hx => kI_inj _ _ hx) x
 have hr : (Instr.mapUpdate 70 (.map (some (w0.heap.size + 1))) (.int .i64 k) x).run Try.prog w = .ok () { w with heap := w.heap.setIfInBounds (w0.heap.size + 1) ob } := hr
 have he : a.eval (.const (.int .i64 k)) = .int .i64 k := rfl
 unfold Oper.wp
 simp [execOp, hop, hm, hv, he, hr, Result.andThen]
 exact hK' _ _ (hK _ (h.ins hm2 (kept_set (Kept.refl _ _) _)))
/-- What scopes know of operators. -/
structure OpsR (w : World) (mb fb p1 p2 : Nat) : Prop where
 mp : MapF kI (.int .i64) w mb (opF fb p1 p2)
 fl : FlagM w fb
 c1 : w.cell? ⟨p1, 0, none⟩ = some (.int .i64 1)
 c2 : w.cell? ⟨p2, 0, none⟩ = some (.int .i64 (-1))
theorem OpsR.bel {w w1 : World} {mb fb p1 p2 : Nat} (h : OpsR w mb fb p1 p2) (hB : RowKit.Below w.heap.size w w1) : OpsR w1 mb fb p1 p2 :=
 ⟨h.mp.bel hB, h.fl.bel hB, (hB.cell (p := ⟨p1, 0, none⟩) (World.block_lt_of_cell? _ _ h.c1)).trans h.c1, (hB.cell (p := ⟨p2, 0, none⟩) (World.block_lt_of_cell? _ _ h.c2)).trans h.c2⟩
set_option maxRecDepth 100000 in
set_option maxHeartbeats 8000000 in
theorem uoperators_any (w : World) : Calls Try.prog 54 #[] w fun e w' => ∃ mb fb p1 p2, e = .returned (.map (some mb)) ∧ OpsR w' mb fb p1 p2 ∧ RowKit.Below w.heap.size w w' := by
 have hmm := @run_makeMap Try.prog
 have hmf : ∀ (fn : Fn) (first cap : Array Value) (w : World), (Instr.makeFunc fn first cap).run Try.prog w = .ok (.func fn first cap) w := fun _ _ _ _ => rfl
 have KP := Lib.hid uproduct_any
 have H : Hid (OpB w ((w.alloc (.cells #[.bool true, .int .i64 0, .int .i64 0, .int .i64 0] 29)).alloc (.map #[] 0)) (fun _ => none) []) := by
  have A1 := (Below.refl w.heap.size w).alloc (Nat.le_refl _) (.cells #[.bool true, .int .i64 0, .int .i64 0, .int .i64 0] 29)
  have A2 := (Below.refl (w.alloc (.cells #[.bool true, .int .i64 0, .int .i64 0, .int .i64 0] 29)).heap.size (w.alloc (.cells #[.bool true, .int .i64 0, .int .i64 0, .int .i64 0] 29))).alloc (Nat.le_refl _) (.map #[] 0)
  have hm := MapF.new kI (.int .i64) (w.alloc (.cells #[.bool true, .int .i64 0, .int .i64 0, .int .i64 0] 29))
  have hs : (w.alloc (.cells #[.bool true, .int .i64 0, .int .i64 0, .int .i64 0] 29)).heap.size = w.heap.size + 1 := by simp
  rw [hs] at hm
  have hb := box4 (BoxL.new w [.bool true, .int .i64 0, .int .i64 0, .int .i64 0] 29)
  have hf : FlagM (w.alloc (.cells #[.bool true, .int .i64 0, .int .i64 0, .int .i64 0] 29)) w.heap.size := ⟨hb.1, hb.2.1, hb.2.2.1, hb.2.2.2.1⟩
  exact ⟨hm, hf.bel A2, A1.trans (A2.mono (by omega)), fun q hq => by cases hq⟩
 go_enter Try.func54, Try.ntmps54
 go_wp2_with (first
  | (refine (KP.out _ _).mono ?_; rintro _ v5 ⟨rfl, hc, hb⟩; replace H := Lib.hid (H.out.call hb hc); clear hc hb)
  | (refine (KP.out _ _).mono ?_; rintro _ v6 ⟨rfl, hc, hb⟩; replace H := Lib.hid (H.out.call hb hc); clear hc hb)
  | (refine wpList_insF rfl _ _ _ _ rfl rfl rfl H.out ?_; clear H; intro w1 h1; have H := Lib.hid h1; clear h1))
 go_ret
 exact ⟨_, _, _, _, rfl, ⟨H.out.mp, H.out.fl, (H.out.pw (_, 1) (by simp)).1, (H.out.pw (_, -1) (by simp)).1⟩, H.out.be⟩
/-- What an operator gives: its unit, or that there is none. -/
def OpOut (op : Int) (us : List U) (e : Ending) : Prop := ∃ val ok, e = .returned (.tuple #[val, .bool ok]) ∧ match opU op us with | some x => val = uV x ∧ ok = true | none => ok = false ∧ ∃ x, val = uV x
theorem expo3 (a b : Bool) (x y z : Bool) : (!a && !b && (x && (y && z))) = decide (a = false ∧ b = false ∧ x = true ∧ y = true ∧ z = true) := by cases a <;> cases b <;> cases x <;> cases y <;> cases z <;> rfl
theorem OpOut.of {op : Int} {us : List U} {e : Ending} {x : U} {c : Prop} [Decidable c] {d : Bool} (hx : opU op us = if c then some x else none) (hd : d = decide c) (he : e = .returned (.tuple #[uV x, .bool d])) : OpOut op us e := by
 refine ⟨_, _, he, ?_⟩
 rw [hx]
 by_cases h : c
 ·rw [if_pos h, hd]; exact ⟨rfl, decide_eq_true h⟩
 ·rw [if_neg h, hd]; exact ⟨decide_eq_false h, _, rfl⟩
theorem op_any {w : World} {mb fb p1 p2 : Nat} (h : OpsR w mb fb p1 p2) (op : Int) (us : List U) (p : Option Addr) (b off c : Nat) (hS : SlR w p b off us.length 4 (us.map uC)) (hl : (us.length : Int) = arity op) (h1 : op ≠ 1) (h2 : op ≠ 2) (hs : ∀ u ∈ us, sU u) :
  ∃ F caps, opF fb p1 p2 op = some (.func (.func F) #[] caps) ∧ (∀ (args : Array Value) (w : World), (callFunc F args).run Try.prog w = .ok (.enter F args) w) ∧ Calls Try.prog F (#[.slice p us.length c] ++ caps) w fun e w' => OpOut op us e ∧ RowKit.Below w.heap.size w w' := by
 have hop : op = 3 ∨ op = 4 ∨ op = 5 ∨ op = 6 ∨ op = 7 ∨ op = 8 ∨ op = 9 ∨ op = 10 ∨ op = 11 ∨ op = 12 ∨ op = 13 ∨ op = 14 ∨ op = 15 ∨ op = 16 ∨ op = 17 := by
  unfold arity at hl
  split at hl
  ·omega
  ·split at hl
   ·omega
   ·split at hl
    ·omega
    ·split at hl
     ·omega
     ·omega
 have two : arity op = 2 → ∃ u v, us = [u, v] := fun e => by
  rw [e] at hl
  match us, hl with
  | [u, v], _ => exact ⟨u, v, rfl⟩
  | [], h => simp at h
  | [_], h => simp at h
  | _ :: _ :: _ :: _, h => simp at h; omega
 rcases hop with rfl | rfl | rfl | rfl | rfl | rfl | rfl | rfl | rfl | rfl | rfl | rfl | rfl | rfl | rfl
 case inl | inr.inl | inr.inr.inr.inr.inl | inr.inr.inr.inr.inr.inl =>
  obtain ⟨u, v, rfl⟩ := two rfl
  obtain ⟨rfl, g⟩ := U2.of hS
  exact ⟨72, #[], by rfl, fun _ _ => by kernel_rfl, (opAlike u v b off c w g).mono fun _ _ ⟨he, hb⟩ => ⟨OpOut.of (x := u) (c := u = v ∧ u.f = false) rfl (by cases u.f <;> simp) he, hb⟩⟩
 case inr.inr.inl =>
  obtain ⟨u, v, rfl⟩ := two rfl
  obtain ⟨rfl, g⟩ := U2.of hS
  exact ⟨90, #[.pointer (some ⟨p1, 0, none⟩)], by rfl, fun _ _ => by kernel_rfl, (opProduct 1 u v b off c p1 w (hs u (by simp)) (hs v (by simp)) (.inl rfl) g h.c1).mono fun _ _ ⟨he, hb⟩ => ⟨OpOut.of (x := mulU 1 u v) (c := u.f = false ∧ v.f = false ∧ expo (mulU 1 u v).m = true ∧ expo (mulU 1 u v).a = true ∧ expo (mulU 1 u v).d = true) rfl (expo3 _ _ _ _ _) he, hb⟩⟩
 case inr.inr.inr.inl =>
  obtain ⟨u, v, rfl⟩ := two rfl
  obtain ⟨rfl, g⟩ := U2.of hS
  exact ⟨90, #[.pointer (some ⟨p2, 0, none⟩)], by rfl, fun _ _ => by kernel_rfl, (opProduct (-1) u v b off c p2 w (hs u (by simp)) (hs v (by simp)) (.inr rfl) g h.c2).mono fun _ _ ⟨he, hb⟩ => ⟨OpOut.of (x := mulU (-1) u v) (c := u.f = false ∧ v.f = false ∧ expo (mulU (-1) u v).m = true ∧ expo (mulU (-1) u v).a = true ∧ expo (mulU (-1) u v).d = true) rfl (expo3 _ _ _ _ _) he, hb⟩⟩
 case inr.inr.inr.inr.inr.inr.inl | inr.inr.inr.inr.inr.inr.inr.inl =>
  obtain ⟨u, v, rfl⟩ := two rfl
  obtain ⟨rfl, g⟩ := U2.of hS
  exact ⟨73, #[.pointer (some ⟨fb, 0, none⟩)], by rfl, fun _ _ => by kernel_rfl, (opEqual u v b off c fb w g h.fl).mono fun _ _ ⟨he, hb⟩ => ⟨OpOut.of (x := uFlag) (c := u = v) rfl rfl he, hb⟩⟩
 case inr.inr.inr.inr.inr.inr.inr.inr.inl | inr.inr.inr.inr.inr.inr.inr.inr.inr.inl =>
  obtain ⟨u, v, rfl⟩ := two rfl
  obtain ⟨rfl, g⟩ := U2.of hS
  exact ⟨74, #[.pointer (some ⟨fb, 0, none⟩)], by rfl, fun _ _ => by kernel_rfl, (opOrder u v b off c fb w g h.fl).mono fun _ _ ⟨he, hb⟩ => ⟨OpOut.of (x := uFlag) (c := u = v ∧ u.f = false) rfl (by cases u.f <;> simp) he, hb⟩⟩
 case inr.inr.inr.inr.inr.inr.inr.inr.inr.inr.inl | inr.inr.inr.inr.inr.inr.inr.inr.inr.inr.inr.inl =>
  obtain ⟨u, v, rfl⟩ := two rfl
  exact ⟨75, #[.pointer (some ⟨fb, 0, none⟩)], by rfl, fun _ _ => by kernel_rfl, (opLogic [u, v] p b off c fb w hS h.fl).mono fun _ _ ⟨he, hb⟩ => ⟨OpOut.of (x := uFlag) (c := u.f = true ∧ v.f = true) rfl (by cases hu : u.f <;> cases hv : v.f <;> simp [hu, hv]) he, hb⟩⟩
 case inr.inr.inr.inr.inr.inr.inr.inr.inr.inr.inr.inr.inl =>
  obtain ⟨u, rfl⟩ : ∃ u, us = [u] := by
   match us, hl with
   | [u], _ => exact ⟨u, rfl⟩
   | [], h => simp [arity] at h
   | _ :: _ :: _, h => simp [arity] at h; omega
  exact ⟨75, #[.pointer (some ⟨fb, 0, none⟩)], by rfl, fun _ _ => by kernel_rfl, (opLogic [u] p b off c fb w hS h.fl).mono fun _ _ ⟨he, hb⟩ => ⟨OpOut.of (x := uFlag) (c := (15 : Int) = 15 ∧ u.f = true) rfl (by cases hu : u.f <;> simp [hu]) he, hb⟩⟩
 case inr.inr.inr.inr.inr.inr.inr.inr.inr.inr.inr.inr.inr.inl =>
  obtain ⟨u, v, x, rfl⟩ : ∃ u v x, us = [u, v, x] := by
   match us, hl with
   | [u, v, x], _ => exact ⟨u, v, x, rfl⟩
   | [], h => simp [arity] at h
   | [_], h => simp [arity] at h
   | [_, _], h => simp [arity] at h
   | _ :: _ :: _ :: _ :: _, h => simp [arity] at h; omega
  have hq := hS.ptr (by simp)
  subst hq
  have h0 := (hS.at_ 0 _ rfl).2
  have h1 := (hS.at_ 1 _ rfl).2
  have h2 := (hS.at_ 2 _ rfl).2
  simp only [Nat.zero_mul, Nat.add_zero, Nat.one_mul] at h0 h1 h2
  have g1 : U2 w b off u v := ⟨h0 0 _ rfl, h0 1 _ rfl, h0 2 _ rfl, h0 3 _ rfl, h1 0 _ rfl, h1 1 _ rfl, h1 2 _ rfl, h1 3 _ rfl⟩
  have g2 : U2 w b (off + 4) v x := ⟨h1 0 _ rfl, h1 1 _ rfl, h1 2 _ rfl, h1 3 _ rfl, h2 0 _ rfl, h2 1 _ rfl, h2 2 _ rfl, h2 3 _ rfl⟩
  exact ⟨77, #[], by rfl, fun _ _ => by kernel_rfl, (opChoice u v x b off c w g1 g2).mono fun _ _ ⟨he, hb⟩ => ⟨OpOut.of (x := v) (c := (16 : Int) = 16 ∧ u.f = true ∧ v = x) rfl (by cases hu : u.f <;> simp) he, hb⟩⟩
 case inr.inr.inr.inr.inr.inr.inr.inr.inr.inr.inr.inr.inr.inr =>
  obtain rfl : us = [] := by
   match us, hl with
   | [], _ => rfl
   | _ :: _, h => simp [arity] at h; omega
  exact ⟨75, #[.pointer (some ⟨fb, 0, none⟩)], by rfl, fun _ _ => by kernel_rfl, (opLogic [] p b off c fb w hS h.fl).mono fun _ _ ⟨he, hb⟩ => ⟨OpOut.of (x := uFlag) (c := (17 : Int) = 17) rfl (by simp) he, hb⟩⟩
end Go.Proofs.Ytoaonficdkgfiaa
namespace Go.Proofs.Ytoaonficdkgfiaa
open Go.RowKit Un MapKept

theorem info_G : (Try.prog.info? 66).map (fun i => (i.zero.map (·.cells.size), i.size, decide (i.bytes ≤ 1000))) = some (some 2, 2, true) := by kernel_rfl
/-- An error's two cells. -/
def gC (e : Int × Int) : List Value := [.int .i64 e.1, .int .i64 e.2]
theorem own_heap {w w' : World} {base E size n : Nat} {v : Value} {xs : List Value} (h : w.ownsRow base E size v n xs) (hb : ∀ j, v.ownBlock = some j → j < w.heap.size → w'.heap[j]? = w.heap[j]?) : w'.ownsRow base E size v n xs := by
 refine ⟨h.1, ?_⟩
 rcases h.2 with h0 | ⟨g, cap, cur, rfl, h1, h2, h3⟩
 ·exact .inl h0
 ·refine .inr ⟨g, cap, cur, rfl, h1, ?_, h3⟩
  rw [hb g rfl (Array.getElem?_eq_some_iff.1 h2).1]; exact h2
/-- A slice of errors that only this call knows. -/
structure DgO (w : World) (base : Nat) (v : Value) (l : List (Int × Int)) : Prop where
 own : w.ownsRow base 66 2 v l.length (l.flatMap gC)
 bs : base ≤ w.heap.size
theorem DgO.nil (w : World) (base : Nat) (hb : base ≤ w.heap.size) : DgO w base (.slice none 0 0) [] := ⟨⟨rfl, .inl ⟨rfl, rfl⟩⟩, hb⟩
theorem DgO.keep {w w' : World} {base : Nat} {v : Value} {l : List (Int × Int)} (h : DgO w base v l) (hs : w.heap.size ≤ w'.heap.size) (hb : ∀ j, v.ownBlock = some j → j < w.heap.size → w'.heap[j]? = w.heap[j]?) : DgO w' base v l := ⟨own_heap h.own hb, Nat.le_trans h.bs hs⟩
theorem DgO.bel {w w' : World} {base : Nat} {v : Value} {l : List (Int × Int)} (h : DgO w base v l) (hB : RowKit.Below w.heap.size w w') : DgO w' base v l := h.keep hB.size (fun j _ hj => hB.block j hj)
theorem DgO.lt {w : World} {base : Nat} {v : Value} {l : List (Int × Int)} (h : DgO w base v l) (j : Nat) (hj : v.ownBlock = some j) : base ≤ j ∧ j < w.heap.size := h.own.lt j hj
/-- One error is appended. -/
theorem DgO.app {w : World} {base : Nat} {q : Option Addr} {cap : Nat} {l : List (Int × Int)} (h : DgO w base (.slice q l.length cap) l) (hl : l.length ≤ 1000000) (pl e : Int) (ty : TypeId) :
  ∃ q' cap' W2, (Builtin.append_ #[41, 41] ty #[.slice q l.length cap, .slice (some ⟨w.heap.size, 0, none⟩) 1 1]).run Try.prog (w.alloc (.cells #[.int .i64 pl, .int .i64 e] 66)) = .ok (.slice q' (l ++ [(pl, e)]).length cap') W2 ∧ DgO W2 base (.slice q' (l ++ [(pl, e)]).length cap') (l ++ [(pl, e)]) ∧ w.heap.size ≤ W2.heap.size ∧ W2.os = w.os ∧ W2.tape = w.tape ∧ W2.output = w.output ∧ ∀ j, j < w.heap.size → (Value.slice q l.length cap).ownBlock ≠ some j → W2.heap[j]? = w.heap[j]? := by
 have b1 := (Below.refl w.heap.size w).alloc (Nat.le_refl _) (.cells #[.int .i64 pl, .int .i64 e] 66)
 have a1 := At2.new w (.int .i64 pl) (.int .i64 e) 66
 have h1 := h.bel b1
 obtain ⟨v', W2, hr, hown, hgr, hob⟩ := run_app1 41 66 2 Try.underlying41 info_G (by decide) _ base ty _ _ _ h1.own w.heap.size (gC (pl, e)) rfl
  (fun j u hu => by
   match j, hu with
   | 0, hu => simp [gC] at hu; subst hu; exact a1.c0
   | 1, hu => simp [gC] at hu; subst hu; exact a1.c1
   | j + 2, hu => simp [gC] at hu) (by simp [gC, Value.oneCell']) hl h1.bs
 obtain ⟨q', cap', rfl⟩ := own_slice hown
 have hs : w.heap.size ≤ W2.heap.size := Nat.le_trans b1.size hgr.size
 refine ⟨q', cap', W2, by rw [hr]; simp, ⟨by simpa using hown, Nat.le_trans h.bs hs⟩, hs, hgr.os.trans b1.os, hgr.tape.trans b1.tape, hgr.output.trans b1.output, fun j hj hn => ?_⟩
 exact (hgr.block j (by simp; omega) (fun e => hn e.symm)).trans (b1.block j hj)
theorem DgO.slice {w : World} {base : Nat} {v : Value} {l : List (Int × Int)} (h : DgO w base v l) : ∃ q cap, v = .slice q l.length cap := own_slice h.own
section
variable {P : Program} {ops : Array Oper} {rest : List Oper} {o : Oper} {a : Act} {w w' : World} {Q : Exit → Act → World → Prop} {T : TypeId} {v vm vk : Value}
theorem wl_lookup (m k : Operand) (ok : Bool) (hgd : o.guard = none) (ho : o.op = .lookup T m k ok) (hm : a.eval m = vm) (hk : a.eval k = vk) (hr : (Instr.lookup T vm vk ok).run P w = .ok v w) (h : wpList P ops Q rest (a.put o.dst v) w) : wpList P ops Q (o :: rest) a w := wpList_plain hgd fun _ hK => by
 unfold Oper.wp execOp
 simp only [ho, Sem.run_bind, Sem.run_pure, hm, hk, hr]
 exact hK _ _ h
theorem wl_mapset (m k x : Operand) (hgd : o.guard = none) (ho : o.op = .mapUpdate T m k x) (hm : a.eval m = vm) (hk : a.eval k = vk) (hx : a.eval x = v) (hr : (Instr.mapUpdate T vm vk v).run P w = .ok () w') (h : wpList P ops Q rest (a.put o.dst undef) w') : wpList P ops Q (o :: rest) a w := wpList_plain hgd fun _ hK => by
 unfold Oper.wp execOp
 simp only [ho, Sem.run_bind, Sem.run_pure, hm, hk, hx, hr]
 exact hK _ _ h
end
theorem und_str : Try.prog.underlying 9 = some .string := by kernel_rfl
theorem und_nms : Try.prog.underlying 92 = some (.map 9 4) := by kernel_rfl
theorem und_fts : Try.prog.underlying 69 = some (.map 9 29) := by kernel_rfl
theorem zero_bool (w : World) : (zeroValue 4).run Try.prog w = .ok (.bool false) w := by kernel_rfl
theorem zero_unit (w : World) : (zeroValue 29).run Try.prog w = .ok (uV uNum) w := by kernel_rfl
end Go.Proofs.Ytoaonficdkgfiaa
namespace Go.Proofs.Ytoaonficdkgfiaa
open Go.RowKit Un MapKept

/-- The names that were there. -/
def nmF (l : List Dc) : List UInt8 → Option Value := fun s => if l.any (fun e => e.nm == s) then some (.bool true) else none
theorem nmF_snoc (l : List Dc) (d : Dc) : updF (nmF l) d.nm (.bool true) = nmF (l ++ [d]) := by
 funext s
 simp only [updF, nmF, List.any_append, List.any_cons, List.any_nil, Bool.or_false]
 by_cases h : s = d.nm
 ·subst h; simp
 ·rw [if_neg h]
  have : (d.nm == s) = false := by simpa using Ne.symm h
  rw [this, Bool.or_false]
theorem prodC_snoc (l : List Dc) (d : Dc) : prodC (l ++ [d]) = cases1 (prodC l) d := by simp [prodC]
theorem cases1_rng {c : Int} {d : Dc} (h : 1 ≤ c ∧ c ≤ 4097) : 1 ≤ cases1 c d ∧ cases1 c d ≤ 4097 := by
 unfold cases1 bounded
 split
 ·rename_i hb
  simp only [Bool.and_eq_true, decide_eq_true_eq] at hb
  have h1 : 1 ≤ d.hi - d.lo + 1 := by omega
  have h2 : 1 ≤ c * (d.hi - d.lo + 1) := Int.mul_pos (by omega) h1
  omega
 ·exact h
theorem prodC_rng (l : List Dc) : 1 ≤ prodC l ∧ prodC l ≤ 4097 := by
 suffices ∀ (l : List Dc) (c : Int), 1 ≤ c ∧ c ≤ 4097 → 1 ≤ l.foldl cases1 c ∧ l.foldl cases1 c ≤ 4097 from this l 1 (by omega)
 intro l
 induction l with
 | nil => intro c h; exact h
 | cons d l ih => intro c h; exact ih _ (cases1_rng h)
/-- How things stand within factErrors. -/
structure FeS (w0 w : World) (pre : List Dc) (v : Value) (es : List (Int × Int)) : Prop where
 dg : DgO w (w0.heap.size + 1) v es
 mp : MapF kS .string w w0.heap.size (nmF pre)
 be : RowKit.Below w0.heap.size w0 w
theorem FeS.bel {w0 w w1 : World} {pre : List Dc} {v : Value} {es : List (Int × Int)} (h : FeS w0 w pre v es) (hB : RowKit.Below w.heap.size w w1) : FeS w0 w1 pre v es := ⟨h.dg.bel hB, h.mp.bel hB, h.be.trans (hB.mono h.be.size)⟩
theorem FeS.app {w0 w w1 : World} {pre : List Dc} {v v' : Value} {es es' : List (Int × Int)} (h : FeS w0 w pre v es) (hd : DgO w1 (w0.heap.size + 1) v' es') (hs : w.heap.size ≤ w1.heap.size) (h1 : w1.os = w.os) (h2 : w1.tape = w.tape) (h3 : w1.output = w.output) (hk : ∀ j, j < w.heap.size → v.ownBlock ≠ some j → w1.heap[j]? = w.heap[j]?) : FeS w0 w1 pre v' es' := by
 have hm : ∀ j, j ≤ w0.heap.size → v.ownBlock ≠ some j := fun j hj e => by have := (h.dg.lt j e).1; omega
 exact ⟨hd, h.mp.of (hk _ h.mp.lt (hm _ (Nat.le_refl _))), ⟨h1.trans h.be.os, h2.trans h.be.tape, h3.trans h.be.output, Nat.le_trans h.be.size hs, fun k hk2 => (hk k (Nat.lt_of_lt_of_le hk2 h.be.size) (hm k (by omega))).trans (h.be.block k hk2)⟩⟩
theorem FeS.set {w0 w : World} {pre : List Dc} {v : Value} {es : List (Int × Int)} (h : FeS w0 w pre v es) (d : Dc) : ∃ o, (Instr.mapUpdate 92 (.map (some w0.heap.size)) (.string (bs d.nm)) (.bool true)).run Try.prog w = .ok () { w with heap := w.heap.setIfInBounds w0.heap.size o } ∧ FeS w0 { w with heap := w.heap.setIfInBounds w0.heap.size o } (pre ++ [d]) v es := by
 obtain ⟨o, h1, h2⟩ := h.mp.update und_nms und_str d.nm (by trivial) (fun x hx => kS_inj _ _ hx) (.bool true)
 rw [nmF_snoc] at h2
 refine ⟨o, h1, h.dg.keep (by simp) (fun j hj _ => ?_), h2, below_set h.be (Nat.le_refl _) o⟩
 have := (h.dg.lt j hj).1
 simp [show w0.heap.size ≠ j by omega]
theorem FeS.ask {w0 w : World} {pre : List Dc} {v : Value} {es : List (Int × Int)} (h : FeS w0 w pre v es) (s : List UInt8) : (Instr.lookup 92 (.map (some w0.heap.size)) (.string (bs s)) false).run Try.prog w = .ok (.bool (pre.any fun e => e.nm == s)) w := by
 have := h.mp.ask und_nms und_str s (by trivial) false (.bool false) (zero_bool w)
 unfold kS nmF at this
 rw [this]
 cases pre.any (fun e => e.nm == s) <;> rfl
theorem BoxL.app {w w1 : World} {b : Nat} {l : List Value} {v : Value} (h : BoxL w b l) (hb : b < w.heap.size) (hn : v.ownBlock ≠ some b) (hk : ∀ j, j < w.heap.size → v.ownBlock ≠ some j → w1.heap[j]? = w.heap[j]?) : BoxL w1 b l := h.of (hk b hb hn)
set_option maxRecDepth 100000 in
set_option maxHeartbeats 12000000 in
theorem ufactErrors_any (L : List Dc) (hl : L.length ≤ 1000000) (p : Option Addr) (b off c : Nat) (w : World) (hS : SlR w p b off L.length 8 (L.map dC)) :
  Calls Try.prog 41 #[.slice p L.length c] w fun e w' => ∃ v, e = .returned v ∧ DgO w' w.heap.size v (errsD [] L) ∧ RowKit.Below w.heap.size w w' := by
 have hmm := @run_makeMap Try.prog
 have KB := Lib.hid uisBounded_any
 have HS := Lib.hid hS
 have hmax := hS.max
 obtain ⟨R, hR⟩ : ∃ R, R = errsD [] L := ⟨_, rfl⟩
 rw [← hR]
 have HR := Lib.hid hR
 clear hR hS
 have H0 : Hid (FeS w (w.alloc (.map #[] 0)) [] (.slice none 0 0) []) := by
  refine ⟨DgO.nil _ _ (by simp), ?_, (Below.refl _ _).alloc (Nat.le_refl _) _⟩
  have := MapF.new kS .string w
  have e : nmF [] = fun _ => none := by funext s; rfl
  rw [e]; exact this
 go_enter Try.func41, Try.ntmps41
 go_wp2_with fail
 generalize w.alloc (.map #[] 0) = W0 at *
 go_loopg [3, 5, 11] L.length (fun g v3 v5 v11 wr => ∃ (i : Nat) (q : Option Addr) (cap : Nat) (es : List (Int × Int)) (cc : Int), i ≤ L.length ∧ L.length - i ≤ g ∧ v11 = .int .i64 i ∧ v5 = .int .i64 cc ∧ v3 = .slice q es.length cap ∧ Hid (cc = prodC (L.take i)) ∧ es.length ≤ i ∧ Hid (errsD [] L = es ++ errsD (L.take i) (L.drop i)) ∧ Hid (FeS w wr (L.take i) (.slice q es.length cap) es))
 case atStart => exact ⟨0, none, 0, [], 1, Nat.zero_le _, by omega, by simp, rfl, rfl, rfl, Nat.le_refl _, by show _ = _; simp, H0⟩
 case round =>
  obtain ⟨i, q, cap, es, cc, hi, hg, rfl, rfl, rfl, hcc, hes, HM, HF⟩ := hrel
  have hws := HF.out.be.size
  by_cases hlt : i < L.length
  ·have hz : (i : Int) < (L.length : Int) := by omega
   have hq := HS.out.ptr (by omega)
   subst hq
   have hr := (HS.out.bel HF.out.be).at_ i (dC L[i]) (by rw [List.getElem?_map, List.getElem?_eq_getElem hlt]; rfl)
   have htk : L.take (i + 1) = L.take i ++ [L[i]] := by rw [List.take_succ_eq_append_getElem hlt]
   have E3 : Hid (errsD [] L = es ++ ((if errD (L.take i) (prodC (L.take i)) L[i] = 0 then [] else [(L[i].pl, errD (L.take i) (prodC (L.take i)) L[i])]) ++ errsD (L.take (i + 1)) (L.drop (i + 1)))) := by
    show _ = _
    rw [HM.out, List.drop_eq_getElem_cons hlt, htk]
    rfl
   have E4 : Hid (∀ x, x = cases1 cc L[i] → x = prodC (L.take (i + 1))) := fun x hx => by rw [hx, htk, prodC_snoc, ← hcc.out]
   have hrg := prodC_rng (L.take i)
   rw [← hcc.out] at hrg
   have E5 : Hid (prodC (L.take i) = cc) := hcc.out.symm
   rw [E5.out] at E3
   have HTK := Lib.hid htk
   clear HM hcc htk E5
   generalize hd : L[i] = d at *
   clear hd
   have E6 : Hid (errD (L.take i) cc d = if (L.take i).any (fun e => e.nm == d.nm) then 5 else if !bounded d then 3 else if 4096 < cases1 cc d then 2 else 0) := rfl
   have E7 : Hid (cases1 cc d = if bounded d then min (cc * (d.hi - d.lo + 1)) 4097 else cc) := rfl
   have KQ := Lib.hid (fun w => KB.out (bs d.nm) d.u d.lo d.hi d.pl w)
   have KQ2 : Hid (bounded d = true → 1 ≤ d.hi - d.lo + 1 ∧ d.hi - d.lo + 1 ≤ 1000001 ∧ 0 ≤ d.lo ∧ d.hi ≤ 1000000) := fun h => by
    simp only [bounded, Bool.and_eq_true, decide_eq_true_eq] at h
    omega
   have KSET := Lib.hid (fun (V : World) (q : Option Addr) (n c : Nat) (es : List (Int × Int)) (h : FeS w V (L.take i) (.slice q n c) es) => h.set d)
   rw [← HTK.out] at KSET
   have KASK := Lib.hid (fun (V : World) (q : Option Addr) (n c : Nat) (es : List (Int × Int)) (h : FeS w V (L.take i) (.slice q n c) es) => h.ask d.nm)
   generalize ht : (L.take i).any (fun e => e.nm == d.nm) = tw at *
   clear ht
   have KQ3 : Hid (∀ w, Calls Try.prog 60 #[.agg (dC d).toArray] w fun e w' => e = .returned (.bool (bounded d)) ∧ RowKit.Below w.heap.size w w') := fun w => KQ.out w
   have BX := Lib.hid (BoxL.new wr (dC d) 47)
   have F1 := Lib.hid (HF.out.bel ((Below.refl wr.heap.size wr).alloc (Nat.le_refl _) (.cells (dC d).toArray 47)))
   have hwr : wr.heap.size < (wr.alloc (.cells (dC d).toArray 47)).heap.size := by simp
   have hnb : (Value.slice q es.length cap).ownBlock ≠ some wr.heap.size := fun e => by have := (HF.out.dg.lt _ e).2; omega
   clear HF KQ
   obtain ⟨nm, ⟨uf, um, ua, ud⟩, lo, hi', pl⟩ := d
   generalize bounded ⟨nm, ⟨uf, um, ua, ud⟩, lo, hi', pl⟩ = bd at *
   generalize hc1 : cases1 cc ⟨nm, ⟨uf, um, ua, ud⟩, lo, hi', pl⟩ = c1 at *
   generalize he1 : errD (L.take i) cc ⟨nm, ⟨uf, um, ua, ud⟩, lo, hi', pl⟩ = e1 at *
   have E4' : Hid (c1 = prodC (L.take (i + 1))) := E4.out c1 rfl
   clear E4 hc1 he1 KB
   simp only [dC] at hr BX F1 hwr KQ3 KASK KSET E3
   simp only at KQ2 E7
   have hc := hr.2
   have z0 := hc 0 _ rfl
   have z1 := hc 1 _ rfl
   have z2 := hc 2 _ rfl
   have z3 := hc 3 _ rfl
   have z4 := hc 4 _ rfl
   have z5 := hc 5 _ rfl
   have z6 := hc 6 _ rfl
   have z7 := hc 7 _ rfl
   rw [Nat.add_zero] at z0
   have e2 : IntKind.i64.wrap ((i : Int) + 1) = ((i + 1 : Nat) : Int) := by rw [IntWalk.i64_in _ (by omega)]; rfl
   clear hc hr
   generalize bs nm = s at *
   go_wp2_with fail
   clear z0 z1 z2 z3 z4 z5 z6 z7
   generalize (wr.alloc (.cells #[.string s, .bool uf, .int .i64 um, .int .i64 ua, .int .i64 ud, .int .i64 lo, .int .i64 hi', .int .i64 pl] 47)) = W1 at *
   generalize wr.heap.size = bx at *
   refine (KQ3.out _).mono ?_
   rintro _ V1 ⟨rfl, hb⟩
   have F2 := Lib.hid (F1.out.bel hb)
   have B2 := Lib.hid (BX.out.bel (by simp) hb)
   have hb2 : bx < V1.heap.size := Nat.lt_of_lt_of_le hwr hb.size
   clear hb F1 BX hwr
   cases bd with
   | true =>
    obtain ⟨k1, k2, k3, k4⟩ := KQ2.out rfl
    have ew1 : IntKind.i64.wrap (hi' - lo) = hi' - lo := IntWalk.i64_in _ (by omega)
    have ew2 : IntKind.i64.wrap (hi' - lo + 1) = hi' - lo + 1 := IntWalk.i64_in _ (by omega)
    have hpr : 0 ≤ cc * (hi' - lo + 1) ∧ cc * (hi' - lo + 1) ≤ 4097 * 1000001 := ⟨Int.mul_nonneg (by omega) (by omega), Int.mul_le_mul hrg.2 k2 (by omega) (by omega)⟩
    obtain ⟨x, hx⟩ : ∃ x, x = cc * (hi' - lo + 1) := ⟨_, rfl⟩
    have ew3 : IntKind.i64.wrap (cc * (hi' - lo + 1)) = x := by rw [← hx] at hpr ⊢; exact IntWalk.i64_in _ (by omega)
    have E8 : c1 = min x 4097 := by rw [E7.out, hx]; rfl
    clear k1 k2 k3 k4 hpr hx
    by_cases hm : x ≤ 4097
    ·have E9 : c1 = x := by omega
     subst E9
     clear E8
     cases tw with
     | true =>
      obtain ⟨x0, -⟩ := B2.out 0 _ rfl
      obtain ⟨x1, -⟩ := B2.out 1 _ rfl
      obtain ⟨x2, -⟩ := B2.out 2 _ rfl
      obtain ⟨x3, -⟩ := B2.out 3 _ rfl
      obtain ⟨x4, -⟩ := B2.out 4 _ rfl
      obtain ⟨x5, -⟩ := B2.out 5 _ rfl
      obtain ⟨x6, -⟩ := B2.out 6 _ rfl
      obtain ⟨x7, -⟩ := B2.out 7 _ rfl
      have hlk := KASK.out V1 _ _ _ _ F2.out
      have HER : Hid (((if e1 = 0 then [] else [(pl, e1)]) : List (Int × Int)) = [(pl, 5)]) := by show _ = _; rw [E6.out]; rfl
      obtain ⟨q', cap', W2, hra, hd, hs, g1, g2, g3, hk⟩ := F2.out.dg.app (by omega) pl 5 41
      have F9 := Lib.hid (F2.out.app hd hs g1 g2 g3 hk)
      have B9 := Lib.hid (B2.out.app hb2 hnb hk)
      clear hd hs g1 g2 g3 hk
      obtain ⟨y0, -⟩ := B9.out 0 _ rfl
      obtain ⟨ob, hrs, hF⟩ := KSET.out _ _ _ _ _ F9.out
      have FF := Lib.hid hF
      clear hF
      go_wp2_with (first | ((with_reducible show wpList _ _ _ ({ dst := some 30, op := _, type := _, pos := _, after := _, guard := _ } :: _) _ _); refine wl_lookup _ _ _ rfl rfl rfl rfl hlk ?_) | ((with_reducible show wpList _ _ _ ({ dst := some 36, op := _, type := _, pos := _, after := _, guard := _ } :: _) _ _); refine wl_app (.tmp 31) (.tmp 35) rfl rfl rfl rfl hra ?_) | ((with_reducible show wpList _ _ _ ({ dst := none, op := _, type := _, pos := _, after := _, guard := _ } :: _) _ _); refine wl_mapset _ _ _ rfl rfl rfl rfl rfl hrs ?_))
      go_roundg (L.length - (i + 1))
      case measure => omega
      case rel => exact ⟨i + 1, q', cap', es ++ [(pl, 5)], _, by omega, Nat.le_refl _, by simp, rfl, by simp, E4', by first | omega | (simp; omega), by show _ = _; rw [E3.out, HER.out]; first | rfl | simp, FF⟩
     | false =>
      obtain ⟨x0, -⟩ := B2.out 0 _ rfl
      obtain ⟨x1, -⟩ := B2.out 1 _ rfl
      obtain ⟨x2, -⟩ := B2.out 2 _ rfl
      obtain ⟨x3, -⟩ := B2.out 3 _ rfl
      obtain ⟨x4, -⟩ := B2.out 4 _ rfl
      obtain ⟨x5, -⟩ := B2.out 5 _ rfl
      obtain ⟨x6, -⟩ := B2.out 6 _ rfl
      obtain ⟨x7, -⟩ := B2.out 7 _ rfl
      have hlk := KASK.out V1 _ _ _ _ F2.out
      go_wp2_with (first | ((with_reducible show wpList _ _ _ ({ dst := some 30, op := _, type := _, pos := _, after := _, guard := _ } :: _) _ _); refine wl_lookup _ _ _ rfl rfl rfl rfl hlk ?_))
      clear x0 x1 x2 x3 x4 x5 x6 x7 hlk
      refine (KQ3.out _).mono ?_
      rintro _ V2 ⟨rfl, hb⟩
      have F3 := Lib.hid (F2.out.bel hb)
      have B3 := Lib.hid (B2.out.bel (by simp) hb)
      have hb3 : bx < V2.heap.size := Nat.lt_of_lt_of_le hb2 hb.size
      clear hb F2 B2 hb2
      obtain ⟨x7, -⟩ := B3.out 7 _ rfl
      by_cases h4 : 4096 < c1
      ·have HER : Hid (((if e1 = 0 then [] else [(pl, e1)]) : List (Int × Int)) = [(pl, 2)]) := by show _ = _; rw [E6.out, if_pos h4]; rfl
       obtain ⟨q', cap', W2, hra, hd, hs, g1, g2, g3, hk⟩ := F3.out.dg.app (by omega) pl 2 41
       have F9 := Lib.hid (F3.out.app hd hs g1 g2 g3 hk)
       have B9 := Lib.hid (B3.out.app hb3 hnb hk)
       clear hd hs g1 g2 g3 hk
       obtain ⟨y0, -⟩ := B9.out 0 _ rfl
       obtain ⟨ob, hrs, hF⟩ := KSET.out _ _ _ _ _ F9.out
       have FF := Lib.hid hF
       clear hF
       go_wp2_with (first | ((with_reducible show wpList _ _ _ ({ dst := some 55, op := _, type := _, pos := _, after := _, guard := _ } :: _) _ _); refine wl_app (.tmp 50) (.tmp 54) rfl rfl rfl rfl hra ?_) | ((with_reducible show wpList _ _ _ ({ dst := none, op := _, type := _, pos := _, after := _, guard := _ } :: _) _ _); refine wl_mapset _ _ _ rfl rfl rfl rfl rfl hrs ?_))
       go_roundg (L.length - (i + 1))
       case measure => omega
       case rel => exact ⟨i + 1, q', cap', es ++ [(pl, 2)], _, by omega, Nat.le_refl _, by simp, rfl, by simp, E4', by first | omega | (simp; omega), by show _ = _; rw [E3.out, HER.out]; first | rfl | simp, FF⟩
      ·have HER : Hid (((if e1 = 0 then [] else [(pl, e1)]) : List (Int × Int)) = []) := by show _ = _; rw [E6.out, if_neg h4]; rfl
       obtain ⟨x0, -⟩ := B3.out 0 _ rfl
       obtain ⟨ob, hrs, hF⟩ := KSET.out _ _ _ _ _ F3.out
       have FF := Lib.hid hF
       clear hF
       go_wp2_with (first | ((with_reducible show wpList _ _ _ ({ dst := none, op := _, type := _, pos := _, after := _, guard := _ } :: _) _ _); refine wl_mapset _ _ _ rfl rfl rfl rfl rfl hrs ?_))
       go_roundg (L.length - (i + 1))
       case measure => omega
       case rel => exact ⟨i + 1, q, cap, es, _, by omega, Nat.le_refl _, by simp, rfl, by simp, E4', by first | omega | (simp; omega), by show _ = _; rw [E3.out, HER.out]; first | rfl | simp, FF⟩
    ·have E9 : c1 = 4097 := by omega
     subst E9
     clear E8
     cases tw with
     | true =>
      obtain ⟨x0, -⟩ := B2.out 0 _ rfl
      obtain ⟨x1, -⟩ := B2.out 1 _ rfl
      obtain ⟨x2, -⟩ := B2.out 2 _ rfl
      obtain ⟨x3, -⟩ := B2.out 3 _ rfl
      obtain ⟨x4, -⟩ := B2.out 4 _ rfl
      obtain ⟨x5, -⟩ := B2.out 5 _ rfl
      obtain ⟨x6, -⟩ := B2.out 6 _ rfl
      obtain ⟨x7, -⟩ := B2.out 7 _ rfl
      have hlk := KASK.out V1 _ _ _ _ F2.out
      have HER : Hid (((if e1 = 0 then [] else [(pl, e1)]) : List (Int × Int)) = [(pl, 5)]) := by show _ = _; rw [E6.out]; rfl
      obtain ⟨q', cap', W2, hra, hd, hs, g1, g2, g3, hk⟩ := F2.out.dg.app (by omega) pl 5 41
      have F9 := Lib.hid (F2.out.app hd hs g1 g2 g3 hk)
      have B9 := Lib.hid (B2.out.app hb2 hnb hk)
      clear hd hs g1 g2 g3 hk
      obtain ⟨y0, -⟩ := B9.out 0 _ rfl
      obtain ⟨ob, hrs, hF⟩ := KSET.out _ _ _ _ _ F9.out
      have FF := Lib.hid hF
      clear hF
      go_wp2_with (first | ((with_reducible show wpList _ _ _ ({ dst := some 30, op := _, type := _, pos := _, after := _, guard := _ } :: _) _ _); refine wl_lookup _ _ _ rfl rfl rfl rfl hlk ?_) | ((with_reducible show wpList _ _ _ ({ dst := some 36, op := _, type := _, pos := _, after := _, guard := _ } :: _) _ _); refine wl_app (.tmp 31) (.tmp 35) rfl rfl rfl rfl hra ?_) | ((with_reducible show wpList _ _ _ ({ dst := none, op := _, type := _, pos := _, after := _, guard := _ } :: _) _ _); refine wl_mapset _ _ _ rfl rfl rfl rfl rfl hrs ?_))
      go_roundg (L.length - (i + 1))
      case measure => omega
      case rel => exact ⟨i + 1, q', cap', es ++ [(pl, 5)], _, by omega, Nat.le_refl _, by simp, rfl, by simp, E4', by first | omega | (simp; omega), by show _ = _; rw [E3.out, HER.out]; first | rfl | simp, FF⟩
     | false =>
      obtain ⟨x0, -⟩ := B2.out 0 _ rfl
      obtain ⟨x1, -⟩ := B2.out 1 _ rfl
      obtain ⟨x2, -⟩ := B2.out 2 _ rfl
      obtain ⟨x3, -⟩ := B2.out 3 _ rfl
      obtain ⟨x4, -⟩ := B2.out 4 _ rfl
      obtain ⟨x5, -⟩ := B2.out 5 _ rfl
      obtain ⟨x6, -⟩ := B2.out 6 _ rfl
      obtain ⟨x7, -⟩ := B2.out 7 _ rfl
      have hlk := KASK.out V1 _ _ _ _ F2.out
      go_wp2_with (first | ((with_reducible show wpList _ _ _ ({ dst := some 30, op := _, type := _, pos := _, after := _, guard := _ } :: _) _ _); refine wl_lookup _ _ _ rfl rfl rfl rfl hlk ?_))
      clear x0 x1 x2 x3 x4 x5 x6 x7 hlk
      refine (KQ3.out _).mono ?_
      rintro _ V2 ⟨rfl, hb⟩
      have F3 := Lib.hid (F2.out.bel hb)
      have B3 := Lib.hid (B2.out.bel (by simp) hb)
      have hb3 : bx < V2.heap.size := Nat.lt_of_lt_of_le hb2 hb.size
      clear hb F2 B2 hb2
      obtain ⟨x7, -⟩ := B3.out 7 _ rfl
      have h4 : (4096 : Int) < 4097 := by omega
      have HER : Hid (((if e1 = 0 then [] else [(pl, e1)]) : List (Int × Int)) = [(pl, 2)]) := by show _ = _; rw [E6.out, if_pos h4]; rfl
      obtain ⟨q', cap', W2, hra, hd, hs, g1, g2, g3, hk⟩ := F3.out.dg.app (by omega) pl 2 41
      have F9 := Lib.hid (F3.out.app hd hs g1 g2 g3 hk)
      have B9 := Lib.hid (B3.out.app hb3 hnb hk)
      clear hd hs g1 g2 g3 hk
      obtain ⟨y0, -⟩ := B9.out 0 _ rfl
      obtain ⟨ob, hrs, hF⟩ := KSET.out _ _ _ _ _ F9.out
      have FF := Lib.hid hF
      clear hF
      go_wp2_with (first | ((with_reducible show wpList _ _ _ ({ dst := some 55, op := _, type := _, pos := _, after := _, guard := _ } :: _) _ _); refine wl_app (.tmp 50) (.tmp 54) rfl rfl rfl rfl hra ?_) | ((with_reducible show wpList _ _ _ ({ dst := none, op := _, type := _, pos := _, after := _, guard := _ } :: _) _ _); refine wl_mapset _ _ _ rfl rfl rfl rfl rfl hrs ?_))
      go_roundg (L.length - (i + 1))
      case measure => omega
      case rel => exact ⟨i + 1, q', cap', es ++ [(pl, 2)], _, by omega, Nat.le_refl _, by simp, rfl, by simp, E4', by first | omega | (simp; omega), by show _ = _; rw [E3.out, HER.out]; first | rfl | simp, FF⟩
   | false =>
    have E8 : c1 = cc := by rw [E7.out]; rfl
    subst E8
    cases tw with
    | true =>
     obtain ⟨x0, -⟩ := B2.out 0 _ rfl
     obtain ⟨x1, -⟩ := B2.out 1 _ rfl
     obtain ⟨x2, -⟩ := B2.out 2 _ rfl
     obtain ⟨x3, -⟩ := B2.out 3 _ rfl
     obtain ⟨x4, -⟩ := B2.out 4 _ rfl
     obtain ⟨x5, -⟩ := B2.out 5 _ rfl
     obtain ⟨x6, -⟩ := B2.out 6 _ rfl
     obtain ⟨x7, -⟩ := B2.out 7 _ rfl
     have hlk := KASK.out V1 _ _ _ _ F2.out
     have HER : Hid (((if e1 = 0 then [] else [(pl, e1)]) : List (Int × Int)) = [(pl, 5)]) := by show _ = _; rw [E6.out]; rfl
     obtain ⟨q', cap', W2, hra, hd, hs, g1, g2, g3, hk⟩ := F2.out.dg.app (by omega) pl 5 41
     have F9 := Lib.hid (F2.out.app hd hs g1 g2 g3 hk)
     have B9 := Lib.hid (B2.out.app hb2 hnb hk)
     clear hd hs g1 g2 g3 hk
     obtain ⟨y0, -⟩ := B9.out 0 _ rfl
     obtain ⟨ob, hrs, hF⟩ := KSET.out _ _ _ _ _ F9.out
     have FF := Lib.hid hF
     clear hF
     go_wp2_with (first | ((with_reducible show wpList _ _ _ ({ dst := some 30, op := _, type := _, pos := _, after := _, guard := _ } :: _) _ _); refine wl_lookup _ _ _ rfl rfl rfl rfl hlk ?_) | ((with_reducible show wpList _ _ _ ({ dst := some 36, op := _, type := _, pos := _, after := _, guard := _ } :: _) _ _); refine wl_app (.tmp 31) (.tmp 35) rfl rfl rfl rfl hra ?_) | ((with_reducible show wpList _ _ _ ({ dst := none, op := _, type := _, pos := _, after := _, guard := _ } :: _) _ _); refine wl_mapset _ _ _ rfl rfl rfl rfl rfl hrs ?_))
     go_roundg (L.length - (i + 1))
     case measure => omega
     case rel => exact ⟨i + 1, q', cap', es ++ [(pl, 5)], _, by omega, Nat.le_refl _, by simp, rfl, by simp, E4', by first | omega | (simp; omega), by show _ = _; rw [E3.out, HER.out]; first | rfl | simp, FF⟩
    | false =>
     obtain ⟨x0, -⟩ := B2.out 0 _ rfl
     obtain ⟨x1, -⟩ := B2.out 1 _ rfl
     obtain ⟨x2, -⟩ := B2.out 2 _ rfl
     obtain ⟨x3, -⟩ := B2.out 3 _ rfl
     obtain ⟨x4, -⟩ := B2.out 4 _ rfl
     obtain ⟨x5, -⟩ := B2.out 5 _ rfl
     obtain ⟨x6, -⟩ := B2.out 6 _ rfl
     obtain ⟨x7, -⟩ := B2.out 7 _ rfl
     have hlk := KASK.out V1 _ _ _ _ F2.out
     go_wp2_with (first | ((with_reducible show wpList _ _ _ ({ dst := some 30, op := _, type := _, pos := _, after := _, guard := _ } :: _) _ _); refine wl_lookup _ _ _ rfl rfl rfl rfl hlk ?_))
     clear x0 x1 x2 x3 x4 x5 x6 x7 hlk
     refine (KQ3.out _).mono ?_
     rintro _ V2 ⟨rfl, hb⟩
     have F3 := Lib.hid (F2.out.bel hb)
     have B3 := Lib.hid (B2.out.bel (by simp) hb)
     have hb3 : bx < V2.heap.size := Nat.lt_of_lt_of_le hb2 hb.size
     clear hb F2 B2 hb2
     obtain ⟨x7, -⟩ := B3.out 7 _ rfl
     have HER : Hid (((if e1 = 0 then [] else [(pl, e1)]) : List (Int × Int)) = [(pl, 3)]) := by show _ = _; rw [E6.out]; rfl
     obtain ⟨q', cap', W2, hra, hd, hs, g1, g2, g3, hk⟩ := F3.out.dg.app (by omega) pl 3 41
     have F9 := Lib.hid (F3.out.app hd hs g1 g2 g3 hk)
     have B9 := Lib.hid (B3.out.app hb3 hnb hk)
     clear hd hs g1 g2 g3 hk
     obtain ⟨y0, -⟩ := B9.out 0 _ rfl
     obtain ⟨ob, hrs, hF⟩ := KSET.out _ _ _ _ _ F9.out
     have FF := Lib.hid hF
     clear hF
     go_wp2_with (first | ((with_reducible show wpList _ _ _ ({ dst := some 46, op := _, type := _, pos := _, after := _, guard := _ } :: _) _ _); refine wl_app (.tmp 41) (.tmp 45) rfl rfl rfl rfl hra ?_) | ((with_reducible show wpList _ _ _ ({ dst := none, op := _, type := _, pos := _, after := _, guard := _ } :: _) _ _); refine wl_mapset _ _ _ rfl rfl rfl rfl rfl hrs ?_))
     go_roundg (L.length - (i + 1))
     case measure => omega
     case rel => exact ⟨i + 1, q', cap', es ++ [(pl, 3)], _, by omega, Nat.le_refl _, by simp, rfl, by simp, E4', by first | omega | (simp; omega), by show _ = _; rw [E3.out, HER.out]; first | rfl | simp, FF⟩
  ·have hz : ¬ (i : Int) < (L.length : Int) := by omega
   have hie : i = L.length := by omega
   subst hie
   have hmm2 := HM.out
   rw [List.drop_length] at hmm2
   simp only [errsD, List.append_nil] at hmm2
   go_wp2_with fail
   go_ret
   refine ⟨_, rfl, ?_, HF.out.be⟩
   rw [HR.out, hmm2]
   exact ⟨HF.out.dg.own.mono (by omega), HF.out.be.size⟩
end Go.Proofs.Ytoaonficdkgfiaa
