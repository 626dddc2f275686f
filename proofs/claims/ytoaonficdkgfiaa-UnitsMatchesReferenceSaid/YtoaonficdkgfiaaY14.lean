/- Texts on units: UAbo URul UByl -/
import Derived.Test.YtoaonficdkgfiaaY13
namespace Go.Proofs.Ytoaonficdkgfiaa
open Go.RowKit Un MapKept

/-- A slice of rules, by their cells. -/
structure RsC (w : World) (p : Option Addr) (b off : Nat) (vs : List Ru) (rows : List (List Value)) : Prop where
 sl : SlR w p b off vs.length 28 rows
 ru : ∀ (i : Nat) (h : i < vs.length) (h' : i < rows.length), ∃ x y, RuC vs[i] x y rows[i]
theorem RsC.bel {w w1 : World} {p : Option Addr} {b off : Nat} {vs : List Ru} {rows : List (List Value)} (h : RsC w p b off vs rows) (hB : RowKit.Below w.heap.size w w1) : RsC w1 p b off vs rows := ⟨h.sl.bel hB, h.ru⟩
theorem any_map {α : Type} (l : List α) (f : α → Bool) : (l.map f).any id = l.any f := by simp [List.any_map]
set_option maxRecDepth 100000 in
set_option maxHeartbeats 4000000 in
theorem uisTwice_any (r : Ru) (x y : Kd) (l : List Value) (hr : RuC r x y l) (vs : List Ru) (rows : List (List Value)) (p : Option Addr) (b off c : Nat) (w : World) (hv : RsC w p b off vs rows) :
  Calls Try.prog 85 #[.agg l.toArray, .slice p vs.length c] w fun e w' => e = .returned (.bool (vs.any fun v => v.ver == r.ver)) ∧ RowKit.Below w.heap.size w w' := by
 have hmf : ∀ (fn : Fn) (first cap : Array Value) (w : World), (Instr.makeFunc fn first cap).run Try.prog w = .ok (.func fn first cap) w := fun _ _ _ _ => rfl
 have A1 := (Below.refl w.heap.size w).alloc (Nat.le_refl _) (.cells l.toArray 58)
 have X1 := BoxL.new w l 58
 have hl := hr.len
 have hrl : rows.length = vs.length := hv.sl.ln
 have KC := containsF 95 (fun _ _ => by kernel_rfl) (.pointer (some ⟨w.heap.size, 0, none⟩)) rows (vs.map fun v => v.ver == r.ver) (by rw [List.length_map, hrl]) p b off c (w.alloc (.cells l.toArray 58)) (by rw [hrl]; exact hv.sl.bel A1)
  (fun i h h' V hV => by
   obtain ⟨xv, yv, hc⟩ := hv.ru i (by omega) h
   have := twice1 r (vs[i]'(by omega)) x y xv yv l rows[i] hr hc w.heap.size V (X1.bel (by omega) hV)
   simpa using this)
 rw [any_map, hrl] at KC
 have KQ := Lib.hid KC
 have HB := Lib.hid A1
 generalize (vs.any fun v => v.ver == r.ver) = R at *
 clear KC A1 X1 hr hv
 go_enter Try.func85, Try.ntmps85
 go_wp2_with fail
 refine KQ.out.mono ?_
 rintro _ v ⟨rfl, hb⟩
 have HB2 := Lib.hid (HB.out.trans (hb.mono HB.out.size))
 clear hb KQ
 go_wp2_with fail
 go_ret
 exact ⟨rfl, HB2.out⟩
def zRuleL : List Value := [.string ⟨#[]⟩, .int .i64 0, .int .i64 0, .string ⟨#[]⟩, .int .i64 0, .int .i64 0, .int .i64 0, .int .i64 0, .int .i64 0, .string ⟨#[]⟩, .int .i64 0, .int .i64 0, .bool false, .int .i64 0, .int .i64 0, .int .i64 0, .slice none 0 0, .int .i64 0, .int .i64 0, .string ⟨#[]⟩, .int .i64 0, .int .i64 0, .bool false, .int .i64 0, .int .i64 0, .int .i64 0, .slice none 0 0, .int .i64 0]
theorem alloc_rule (w : World) : (Instr.alloc 58 true (.tuple #[])).run Try.prog w = .ok (.pointer (some ⟨w.heap.size, 0, none⟩)) (w.alloc (.cells zRuleL.toArray 58)) := by kernel_rfl
/-- A rule's box is made and filled. -/
theorem wl_rbox {ops : Array Oper} {rest : List Oper} {o1 o2 : Oper} {a : Act} {v : World} {Q : Exit → Act → World → Prop} {L : List Value} (g1 : o1.guard = none) (g2 : o2.guard = none) (h1 : o1.op = .alloc 58) {x2 y2 : Operand} (h2 : o2.op = .store 58 x2 y2) (hL : L.length = 28) (oL : ∀ u ∈ L, u.oneCell' = true)
  (hx : (a.put o1.dst (.pointer (some ⟨v.heap.size, 0, none⟩))).eval x2 = .pointer (some ⟨v.heap.size, 0, none⟩)) (hy : (a.put o1.dst (.pointer (some ⟨v.heap.size, 0, none⟩))).eval y2 = .agg L.toArray)
  (h : ∀ V : World, RowKit.Below v.heap.size v V → V.heap.size = v.heap.size + 1 → BoxL V v.heap.size L → wpList Try.prog ops Q rest ((a.put o1.dst (.pointer (some ⟨v.heap.size, 0, none⟩))).put o2.dst undef) V) :
  wpList Try.prog ops Q (o1 :: o2 :: rest) a v := by
 have b1 := (Below.refl v.heap.size v).alloc (Nat.le_refl _) (.cells zRuleL.toArray 58)
 have D := BoxL.new v zRuleL 58
 have hs : (v.alloc (.cells zRuleL.toArray 58)).heap.size = v.heap.size + 1 := by simp
 refine wl_alloc g1 h1 (alloc_rule v) ?_
 generalize v.alloc (.cells zRuleL.toArray 58) = V0 at *
 refine wl_store g2 h2 hx hy (store_row 58 28 (by kernel_rfl) V0 v.heap.size zRuleL L D rfl hL oL) ?_
 have k1 := kept_setCells (b := v.heap.size) (w := V0) L 0 V0 (Kept.refl _ _)
 refine h _ (b1.trans (k1.below (Nat.le_refl _) (by omega))) (by rw [setCells_size]; exact hs) (D.cells (by rw [hL]; rfl))
/-- A rule is the version that comes next. -/
def nextB (vs : List Ru) (r : Ru) : Bool := match vs.getLast? with
 | none => decide (r.ver = 1)
 | some v => decide (v.ver = r.ver - 1) && decide (v.known ≤ r.known)
set_option maxRecDepth 100000 in
set_option maxHeartbeats 4000000 in
theorem uisNext_any (r : Ru) (x y : Kd) (l : List Value) (hr : RuC r x y l) (hver : 1 ≤ r.ver ∧ r.ver ≤ 999) (vs : List Ru) (rows : List (List Value)) (p : Option Addr) (b off c : Nat) (w : World) (hv : RsC w p b off vs rows) :
  Calls Try.prog 87 #[.agg l.toArray, .slice p vs.length c] w fun e w' => e = .returned (.bool (nextB vs r)) ∧ RowKit.Below w.heap.size w w' := by
 obtain ⟨i1, e1⟩ := gete hr.f1
 obtain ⟨i6, e6⟩ := gete hr.f6
 have A1 := (Below.refl w.heap.size w).alloc (Nat.le_refl _) (.cells l.toArray 58)
 have X1 := BoxL.new w l 58
 have hl := hr.len
 have hmax := hv.sl.max
 have ew : IntKind.i64.wrap (r.ver - 1) = r.ver - 1 := IntWalk.i64_in _ (by omega)
 obtain ⟨R, hR⟩ : ∃ R, R = nextB vs r := ⟨_, rfl⟩
 rw [← hR]
 have HR := Lib.hid hR
 clear hR
 by_cases hn : vs = []
 ·subst hn
  have HB := Lib.hid A1
  have c1 := (X1 1 _ hr.f1).1
  obtain ⟨W1, hW1⟩ : ∃ W1, W1 = w.alloc (.cells l.toArray 58) := ⟨_, rfl⟩
  have HR2 : Hid (R = decide (r.ver = 1)) := HR.out
  clear A1 X1 hr hv HR
  generalize r.ver = a at *
  by_cases ha : a = 1
  ·subst ha
   go_enter Try.func87, Try.ntmps87
   go_wp2_with fail
   go_ret
   exact ⟨ret_bool (by rw [HR2.out]; rfl), HB.out⟩
  ·have hab : (a == 1) = false := by simpa using ha
   go_enter Try.func87, Try.ntmps87
   go_wp2_with fail
   go_ret
   exact ⟨ret_bool (by rw [HR2.out]; simp [ha]), HB.out⟩
 ·have hpos : 0 < vs.length := List.length_pos_iff.2 hn
  have hln := hv.sl.ln
  have hgl : vs.getLast? = some (vs[vs.length - 1]'(by omega)) := by rw [List.getLast?_eq_getElem?, List.getElem?_eq_getElem]
  have HR2 : Hid (R = (decide ((vs[vs.length - 1]'(by omega)).ver = r.ver - 1) && decide ((vs[vs.length - 1]'(by omega)).known ≤ r.known))) := by show _ = _; rw [HR.out]; unfold nextB; rw [hgl]
  have hv1 := hv.bel A1
  have hq := hv1.sl.ptr hpos
  subst hq
  have hrow := hv1.sl.at_ (vs.length - 1) (rows[vs.length - 1]'(by omega)) (List.getElem?_eq_getElem _)
  obtain ⟨xv, yv, hc⟩ := hv1.ru (vs.length - 1) (by omega) (by omega)
  have hld := load_rule _ b _ _ hrow.1 hrow.2
  have X1' := Lib.hid X1
  have HB := Lib.hid A1
  clear HR hgl hv hv1 hrow A1 X1
  generalize vs[vs.length - 1]'(by omega) = v at *
  generalize rows[vs.length - 1]'(by omega) = lv at *
  have hz : ((vs.length : Int) == 0) = false := by simp; omega
  have hz2 : IntKind.i64.wrap ((vs.length : Int) - 1) = ((vs.length - 1 : Nat) : Int) := by rw [IntWalk.i64_in _ (by omega)]; omega
  have hz3 : ((vs.length - 1 : Nat) : Int) < (vs.length : Int) := by omega
  generalize hm : vs.length - 1 = m at *
  generalize vs.length = n at *
  have hlc := hc.len
  have hlo := hc.one
  have g1 := hc.f1
  have g6 := hc.f6
  generalize v.ver = va at *
  generalize v.known = vk at *
  generalize r.known = rk at *
  have f1 := hr.f1
  have f6 := hr.f6
  clear hr hc
  generalize hW1 : w.alloc (.cells l.toArray 58) = W1 at *
  go_enter Try.func87, Try.ntmps87
  go_wp2_with (first | ((with_reducible show wpList _ _ _ ({ dst := some 17, op := _, type := _, pos := _, after := _, guard := _ } :: _) _ _); (try rw [hW1]); refine wl_loadP rfl rfl rfl hld ?_) | ((with_reducible show wpList _ _ _ ({ dst := some 5, op := _, type := _, pos := _, after := _, guard := _ } :: _) _ _); refine wl_rbox rfl rfl rfl rfl hlc hlo rfl rfl ?_; intro V hb hsz hx; have HB3 := Lib.hid (HB.out.trans (hb.mono HB.out.size)); have X3 := Lib.hid (X1'.out.bel (by omega) hb); obtain ⟨k1, -⟩ := X3.out 1 _ f1; obtain ⟨k6, -⟩ := X3.out 6 _ f6; obtain ⟨j1, -⟩ := hx 1 _ g1; obtain ⟨j6, -⟩ := hx 6 _ g6; clear hb hx hsz))
  all_goals
   go_ret
   refine ⟨ret_bool ?_, HB3.out⟩
   rw [HR2.out]
   simp_all
set_option maxRecDepth 100000 in
set_option maxHeartbeats 6000000 in
theorem uisAbout_any (r : Ru) (x y : Kd) (l : List Value) (hr : RuC r x y l) (vs : List Ru) (rows : List (List Value)) (p : Option Addr) (b off c : Nat) (w : World) (hv : RsC w p b off vs rows) :
  Calls Try.prog 86 #[.agg l.toArray, .slice p vs.length c] w fun e w' => e = .returned (.bool ((hasAct r.kind != r.act.isEmpty) && !(vs.any fun v => v.kind != r.kind || !(v.act == r.act)))) ∧ RowKit.Below w.heap.size w w' := by
 have hmf : ∀ (fn : Fn) (first cap : Array Value) (w : World), (Instr.makeFunc fn first cap).run Try.prog w = .ok (.func fn first cap) w := fun _ _ _ _ => rfl
 have A1 := (Below.refl w.heap.size w).alloc (Nat.le_refl _) (.cells l.toArray 58)
 have X1 := BoxL.new w l 58
 have hl := hr.len
 have hrl : rows.length = vs.length := hv.sl.ln
 have KC : Hid (∀ V, RowKit.Below (w.alloc (.cells l.toArray 58)).heap.size (w.alloc (.cells l.toArray 58)) V → Calls Try.prog 94 #[.slice p vs.length c, .func (.func 96) #[] #[.pointer (some ⟨w.heap.size, 0, none⟩)]] V fun e w' => e = .returned (.bool (vs.any fun v => v.kind != r.kind || !(v.act == r.act))) ∧ RowKit.Below V.heap.size V w') := fun V hV => by
  have := containsF 96 (fun _ _ => by kernel_rfl) (.pointer (some ⟨w.heap.size, 0, none⟩)) rows (vs.map fun v => v.kind != r.kind || !(v.act == r.act)) (by rw [List.length_map, hrl]) p b off c V (by rw [hrl]; exact (hv.sl.bel A1).bel hV)
   (fun i h h' U hU => by
    obtain ⟨xv, yv, hc⟩ := hv.ru i (by omega) h
    have := about1 r (vs[i]'(by omega)) x y xv yv l rows[i] hr hc w.heap.size U ((X1.bel (by omega) hV).bel (by omega) hU)
    simpa using this)
  rw [any_map, hrl] at this
  exact this
 have KH := Lib.hid (fun w => uhasAct_any r.kind w)
 obtain ⟨c2, -⟩ := X1 2 _ hr.f2
 obtain ⟨c3, -⟩ := X1 3 _ hr.f3
 have HB := Lib.hid A1
 have e1 := nm_test r.act
 clear A1 X1 hv
 generalize r.act.isEmpty = E at *
 generalize bs r.act = s at *
 generalize (vs.any fun v => v.kind != r.kind || !(v.act == r.act)) = T at *
 generalize hasAct r.kind = H at *
 generalize r.kind = k at *
 clear hr
 generalize hW1 : w.alloc (.cells l.toArray 58) = W1 at *
 cases H with
 | true =>
  cases E with
  | true =>
   go_enter Try.func86, Try.ntmps86
   go_wp2_with fail
   have hS : W1.drew.cell? ⟨w.heap.size, 2, none⟩ = some (.int .i64 k) ∧ W1.drew.cell? ⟨w.heap.size, 3, none⟩ = some (.string s) := ⟨c2, c3⟩
   refine wp_region_held (S := fun w' : World => w'.cell? ⟨w.heap.size, 2, none⟩ = some (.int .i64 k) ∧ w'.cell? ⟨w.heap.size, 3, none⟩ = some (.string s)) mixed ?_
   change wpAnyH _ _ _ _ _ _ _ _ W1.drew
   have HHS := Lib.hid hS
   refine tk0 (v := ?_) (by kernel_rfl) (by kernel_rfl) (by kernel_rfl) (fun _ _ _ h => h) (Or.inl ⟨by rfl, ?_⟩) hS ?_
   rotate_left
   ·(intro w hSw; (try dsimp only at hSw); go_simp; try with_reducible rfl)
   simp only [Act.put, zA, zB, zC]
   refine tk1 (v := ?_) (by kernel_rfl) (by kernel_rfl) (by kernel_rfl) (fun _ _ _ h => h) (Or.inl ⟨by rfl, ?_⟩) hS ?_
   rotate_left
   ·(intro w hSw; (try dsimp only at hSw); go_simp; try with_reducible rfl)
   simp only [Act.put, zA, zB, zC]
   refine tk3 (v := ?_) (by kernel_rfl) (by kernel_rfl) (by kernel_rfl) (fun _ _ _ h => h) (Or.inl ⟨by rfl, ?_⟩) hS ?_
   rotate_left
   ·(intro w hSw; (try dsimp only at hSw); go_simp; try with_reducible rfl)
   simp only [Act.put, zA, zB, zC]
   refine tk4 (v := ?_) (by kernel_rfl) (by kernel_rfl) (by kernel_rfl) (fun _ _ _ h => h) (Or.inl ⟨by rfl, ?_⟩) hS ?_
   rotate_left
   ·(intro w hSw; (try dsimp only at hSw); go_simp; try with_reducible rfl)
   simp only [Act.put, zA, zB, zC]
   refine tk5 (v := ?_) (by kernel_rfl) (by kernel_rfl) (by kernel_rfl) (fun _ _ _ h => h) (Or.inl ⟨by rfl, ?_⟩) hS ?_
   rotate_left
   ·(intro w hSw; (try dsimp only at hSw); go_simp; try with_reducible rfl)
   simp only [Act.put, zA, zB, zC]
   refine wpAnyH_ready (rs := [2]) (by kernel_rfl) (by simp) (st2 (fun K hK => ?_) AllReadyH.nil)
   go_simp
   refine (KH.out _).mono ?_
   rintro _ v ⟨rfl, rfl⟩
   go_wp2_with fail
   refine hK.out _ _ ?_ (fun hHeld => ?_)
   ·exact HHS.out
   clear hK K
   try simp only [Act.put, zA, zB, zC]
   refine tk6 (v := ?_) (by kernel_rfl) (by kernel_rfl) (by kernel_rfl) (fun _ _ _ h => h) (Or.inl ⟨by rfl, ?_⟩) hHeld ?_
   rotate_left
   ·(intro w hSw; (try dsimp only at hSw); go_simp; try with_reducible rfl)
   simp only [Act.put, zA, zB, zC]
   refine tk7 (v := ?_) (by kernel_rfl) (by kernel_rfl) (by kernel_rfl) (fun _ _ _ h => h) (Or.inl ⟨by rfl, ?_⟩) hHeld ?_
   rotate_left
   ·(intro w hSw; (try dsimp only at hSw); go_simp; try with_reducible rfl)
   simp only [Act.put, zA, zB, zC]
   refine tk8 (v := undef) (by kernel_rfl) (by kernel_rfl) (by kernel_rfl) (fun _ _ _ h => h) (Or.inr ⟨by rfl, rfl⟩) hHeld ?_
   simp only [Act.put, zA, zB, zC]
   refine tk9 (v := undef) (by kernel_rfl) (by kernel_rfl) (by kernel_rfl) (fun _ _ _ h => h) (Or.inr ⟨by rfl, rfl⟩) hHeld ?_
   simp only [Act.put, zA, zB, zC]
   refine wpAnyH_ready (rs := [10]) (by kernel_rfl) (by simp) (st10 (fun K hK => ?_) AllReadyH.nil)
   go_simp
   refine hK.out _ _ ?_ (fun hHeld => ?_)
   ·exact HHS.out
   clear hK K
   try simp only [Act.put, zA, zB, zC]
   refine tk11 (v := undef) (by kernel_rfl) (by kernel_rfl) (by kernel_rfl) (fun _ _ _ h => h) (Or.inr ⟨by rfl, rfl⟩) hHeld ?_
   simp only [Act.put, zA, zB, zC]
   refine tk12 (v := ?_) (by kernel_rfl) (by kernel_rfl) (by kernel_rfl) (fun _ _ _ h => h) (Or.inl ⟨by rfl, ?_⟩) hHeld ?_
   rotate_left
   ·(intro w hSw; (try dsimp only at hSw); go_simp; try with_reducible rfl)
   simp only [Act.put, zA, zB, zC]
   refine tk13 (v := ?_) (by kernel_rfl) (by kernel_rfl) (by kernel_rfl) (fun _ _ _ h => h) (Or.inl ⟨by rfl, ?_⟩) hHeld ?_
   rotate_left
   ·(intro w hSw; (try dsimp only at hSw); go_simp; try with_reducible rfl)
   simp only [Act.put, zA, zB, zC]
   refine wpAnyH_done (by kernel_rfl) ?_ _
   go_wp2_with fail
   go_ret
   exact ⟨rfl, (by repeat' (first | (with_reducible exact HB.out) | (with_reducible refine Below.setCell ?_ ?_ _) | (with_reducible refine Below.alloc ?_ ?_ _) | (with_reducible refine Below.drew ?_) | (with_reducible refine below_drewN ?_ _) | (with_reducible exact Below.refl _ _) | omega | (simp; done) | (simp; omega)))⟩
  | false =>
   go_enter Try.func86, Try.ntmps86
   go_wp2_with fail
   have hS : W1.drew.cell? ⟨w.heap.size, 2, none⟩ = some (.int .i64 k) ∧ W1.drew.cell? ⟨w.heap.size, 3, none⟩ = some (.string s) := ⟨c2, c3⟩
   refine wp_region_held (S := fun w' : World => w'.cell? ⟨w.heap.size, 2, none⟩ = some (.int .i64 k) ∧ w'.cell? ⟨w.heap.size, 3, none⟩ = some (.string s)) mixed ?_
   change wpAnyH _ _ _ _ _ _ _ _ W1.drew
   have HHS := Lib.hid hS
   refine tk0 (v := ?_) (by kernel_rfl) (by kernel_rfl) (by kernel_rfl) (fun _ _ _ h => h) (Or.inl ⟨by rfl, ?_⟩) hS ?_
   rotate_left
   ·(intro w hSw; (try dsimp only at hSw); go_simp; try with_reducible rfl)
   simp only [Act.put, zA, zB, zC]
   refine tk1 (v := ?_) (by kernel_rfl) (by kernel_rfl) (by kernel_rfl) (fun _ _ _ h => h) (Or.inl ⟨by rfl, ?_⟩) hS ?_
   rotate_left
   ·(intro w hSw; (try dsimp only at hSw); go_simp; try with_reducible rfl)
   simp only [Act.put, zA, zB, zC]
   refine tk3 (v := ?_) (by kernel_rfl) (by kernel_rfl) (by kernel_rfl) (fun _ _ _ h => h) (Or.inl ⟨by rfl, ?_⟩) hS ?_
   rotate_left
   ·(intro w hSw; (try dsimp only at hSw); go_simp; try with_reducible rfl)
   simp only [Act.put, zA, zB, zC]
   refine tk4 (v := ?_) (by kernel_rfl) (by kernel_rfl) (by kernel_rfl) (fun _ _ _ h => h) (Or.inl ⟨by rfl, ?_⟩) hS ?_
   rotate_left
   ·(intro w hSw; (try dsimp only at hSw); go_simp; try with_reducible rfl)
   simp only [Act.put, zA, zB, zC]
   refine tk5 (v := ?_) (by kernel_rfl) (by kernel_rfl) (by kernel_rfl) (fun _ _ _ h => h) (Or.inl ⟨by rfl, ?_⟩) hS ?_
   rotate_left
   ·(intro w hSw; (try dsimp only at hSw); go_simp; try with_reducible rfl)
   simp only [Act.put, zA, zB, zC]
   refine wpAnyH_ready (rs := [2]) (by kernel_rfl) (by simp) (st2 (fun K hK => ?_) AllReadyH.nil)
   go_simp
   refine (KH.out _).mono ?_
   rintro _ v ⟨rfl, rfl⟩
   go_wp2_with fail
   refine hK.out _ _ ?_ (fun hHeld => ?_)
   ·exact HHS.out
   clear hK K
   try simp only [Act.put, zA, zB, zC]
   refine tk6 (v := ?_) (by kernel_rfl) (by kernel_rfl) (by kernel_rfl) (fun _ _ _ h => h) (Or.inl ⟨by rfl, ?_⟩) hHeld ?_
   rotate_left
   ·(intro w hSw; (try dsimp only at hSw); go_simp; try with_reducible rfl)
   simp only [Act.put, zA, zB, zC]
   refine tk7 (v := ?_) (by kernel_rfl) (by kernel_rfl) (by kernel_rfl) (fun _ _ _ h => h) (Or.inl ⟨by rfl, ?_⟩) hHeld ?_
   rotate_left
   ·(intro w hSw; (try dsimp only at hSw); go_simp; try with_reducible rfl)
   simp only [Act.put, zA, zB, zC]
   refine tk8 (v := ?_) (by kernel_rfl) (by kernel_rfl) (by kernel_rfl) (fun _ _ _ h => h) (Or.inl ⟨by rfl, ?_⟩) hHeld ?_
   rotate_left
   ·(intro w hSw; (try dsimp only at hSw); go_simp; try with_reducible rfl)
   simp only [Act.put, zA, zB, zC]
   refine tk9 (v := ?_) (by kernel_rfl) (by kernel_rfl) (by kernel_rfl) (fun _ _ _ h => h) (Or.inl ⟨by rfl, ?_⟩) hHeld ?_
   rotate_left
   ·(intro w hSw; (try dsimp only at hSw); go_simp; try with_reducible rfl)
   simp only [Act.put, zA, zB, zC]
   refine wpAnyH_ready (rs := [10]) (by kernel_rfl) (by simp) (st10 (fun K hK => ?_) AllReadyH.nil)
   go_simp
   refine (KC.out _ (Below.refl _ _).drew).mono ?_
   rintro _ V ⟨rfl, hb⟩
   have HD := Lib.hid ((Below.refl W1.heap.size W1).drew.trans hb)
   have HS2 := Lib.hid (show V.cell? ⟨w.heap.size, 2, none⟩ = some (.int .i64 k) ∧ V.cell? ⟨w.heap.size, 3, none⟩ = some (.string s) from ⟨(HD.out.cell (p := ⟨w.heap.size, 2, none⟩) (World.block_lt_of_cell? _ _ c2)).trans c2, (HD.out.cell (p := ⟨w.heap.size, 3, none⟩) (World.block_lt_of_cell? _ _ c3)).trans c3⟩)
   have HB2 := Lib.hid (HB.out.trans (HD.out.mono HB.out.size))
   clear hb HD
   go_wp2_with fail
   refine hK.out _ _ ?_ (fun hHeld => ?_)
   ·exact HS2.out
   clear hK K
   try simp only [Act.put, zA, zB, zC]
   refine tk11 (v := ?_) (by kernel_rfl) (by kernel_rfl) (by kernel_rfl) (fun _ _ _ h => h) (Or.inl ⟨by rfl, ?_⟩) hHeld ?_
   rotate_left
   ·(intro w hSw; (try dsimp only at hSw); go_simp; try with_reducible rfl)
   simp only [Act.put, zA, zB, zC]
   refine tk12 (v := ?_) (by kernel_rfl) (by kernel_rfl) (by kernel_rfl) (fun _ _ _ h => h) (Or.inl ⟨by rfl, ?_⟩) hHeld ?_
   rotate_left
   ·(intro w hSw; (try dsimp only at hSw); go_simp; try with_reducible rfl)
   simp only [Act.put, zA, zB, zC]
   refine tk13 (v := ?_) (by kernel_rfl) (by kernel_rfl) (by kernel_rfl) (fun _ _ _ h => h) (Or.inl ⟨by rfl, ?_⟩) hHeld ?_
   rotate_left
   ·(intro w hSw; (try dsimp only at hSw); go_simp; try with_reducible rfl)
   simp only [Act.put, zA, zB, zC]
   refine wpAnyH_done (by kernel_rfl) ?_ _
   go_wp2_with fail
   go_ret
   exact ⟨rfl, HB2.out⟩
 | false =>
  cases E with
  | true =>
   go_enter Try.func86, Try.ntmps86
   go_wp2_with fail
   have hS : W1.drew.cell? ⟨w.heap.size, 2, none⟩ = some (.int .i64 k) ∧ W1.drew.cell? ⟨w.heap.size, 3, none⟩ = some (.string s) := ⟨c2, c3⟩
   refine wp_region_held (S := fun w' : World => w'.cell? ⟨w.heap.size, 2, none⟩ = some (.int .i64 k) ∧ w'.cell? ⟨w.heap.size, 3, none⟩ = some (.string s)) mixed ?_
   change wpAnyH _ _ _ _ _ _ _ _ W1.drew
   have HHS := Lib.hid hS
   refine tk0 (v := ?_) (by kernel_rfl) (by kernel_rfl) (by kernel_rfl) (fun _ _ _ h => h) (Or.inl ⟨by rfl, ?_⟩) hS ?_
   rotate_left
   ·(intro w hSw; (try dsimp only at hSw); go_simp; try with_reducible rfl)
   simp only [Act.put, zA, zB, zC]
   refine tk1 (v := ?_) (by kernel_rfl) (by kernel_rfl) (by kernel_rfl) (fun _ _ _ h => h) (Or.inl ⟨by rfl, ?_⟩) hS ?_
   rotate_left
   ·(intro w hSw; (try dsimp only at hSw); go_simp; try with_reducible rfl)
   simp only [Act.put, zA, zB, zC]
   refine tk3 (v := ?_) (by kernel_rfl) (by kernel_rfl) (by kernel_rfl) (fun _ _ _ h => h) (Or.inl ⟨by rfl, ?_⟩) hS ?_
   rotate_left
   ·(intro w hSw; (try dsimp only at hSw); go_simp; try with_reducible rfl)
   simp only [Act.put, zA, zB, zC]
   refine tk4 (v := ?_) (by kernel_rfl) (by kernel_rfl) (by kernel_rfl) (fun _ _ _ h => h) (Or.inl ⟨by rfl, ?_⟩) hS ?_
   rotate_left
   ·(intro w hSw; (try dsimp only at hSw); go_simp; try with_reducible rfl)
   simp only [Act.put, zA, zB, zC]
   refine tk5 (v := ?_) (by kernel_rfl) (by kernel_rfl) (by kernel_rfl) (fun _ _ _ h => h) (Or.inl ⟨by rfl, ?_⟩) hS ?_
   rotate_left
   ·(intro w hSw; (try dsimp only at hSw); go_simp; try with_reducible rfl)
   simp only [Act.put, zA, zB, zC]
   refine wpAnyH_ready (rs := [2]) (by kernel_rfl) (by simp) (st2 (fun K hK => ?_) AllReadyH.nil)
   go_simp
   refine (KH.out _).mono ?_
   rintro _ v ⟨rfl, rfl⟩
   go_wp2_with fail
   refine hK.out _ _ ?_ (fun hHeld => ?_)
   ·exact HHS.out
   clear hK K
   try simp only [Act.put, zA, zB, zC]
   refine tk6 (v := ?_) (by kernel_rfl) (by kernel_rfl) (by kernel_rfl) (fun _ _ _ h => h) (Or.inl ⟨by rfl, ?_⟩) hHeld ?_
   rotate_left
   ·(intro w hSw; (try dsimp only at hSw); go_simp; try with_reducible rfl)
   simp only [Act.put, zA, zB, zC]
   refine tk7 (v := ?_) (by kernel_rfl) (by kernel_rfl) (by kernel_rfl) (fun _ _ _ h => h) (Or.inl ⟨by rfl, ?_⟩) hHeld ?_
   rotate_left
   ·(intro w hSw; (try dsimp only at hSw); go_simp; try with_reducible rfl)
   simp only [Act.put, zA, zB, zC]
   refine tk8 (v := ?_) (by kernel_rfl) (by kernel_rfl) (by kernel_rfl) (fun _ _ _ h => h) (Or.inl ⟨by rfl, ?_⟩) hHeld ?_
   rotate_left
   ·(intro w hSw; (try dsimp only at hSw); go_simp; try with_reducible rfl)
   simp only [Act.put, zA, zB, zC]
   refine tk9 (v := ?_) (by kernel_rfl) (by kernel_rfl) (by kernel_rfl) (fun _ _ _ h => h) (Or.inl ⟨by rfl, ?_⟩) hHeld ?_
   rotate_left
   ·(intro w hSw; (try dsimp only at hSw); go_simp; try with_reducible rfl)
   simp only [Act.put, zA, zB, zC]
   refine wpAnyH_ready (rs := [10]) (by kernel_rfl) (by simp) (st10 (fun K hK => ?_) AllReadyH.nil)
   go_simp
   refine (KC.out _ (Below.refl _ _).drew).mono ?_
   rintro _ V ⟨rfl, hb⟩
   have HD := Lib.hid ((Below.refl W1.heap.size W1).drew.trans hb)
   have HS2 := Lib.hid (show V.cell? ⟨w.heap.size, 2, none⟩ = some (.int .i64 k) ∧ V.cell? ⟨w.heap.size, 3, none⟩ = some (.string s) from ⟨(HD.out.cell (p := ⟨w.heap.size, 2, none⟩) (World.block_lt_of_cell? _ _ c2)).trans c2, (HD.out.cell (p := ⟨w.heap.size, 3, none⟩) (World.block_lt_of_cell? _ _ c3)).trans c3⟩)
   have HB2 := Lib.hid (HB.out.trans (HD.out.mono HB.out.size))
   clear hb HD
   go_wp2_with fail
   refine hK.out _ _ ?_ (fun hHeld => ?_)
   ·exact HS2.out
   clear hK K
   try simp only [Act.put, zA, zB, zC]
   refine tk11 (v := ?_) (by kernel_rfl) (by kernel_rfl) (by kernel_rfl) (fun _ _ _ h => h) (Or.inl ⟨by rfl, ?_⟩) hHeld ?_
   rotate_left
   ·(intro w hSw; (try dsimp only at hSw); go_simp; try with_reducible rfl)
   simp only [Act.put, zA, zB, zC]
   refine tk12 (v := ?_) (by kernel_rfl) (by kernel_rfl) (by kernel_rfl) (fun _ _ _ h => h) (Or.inl ⟨by rfl, ?_⟩) hHeld ?_
   rotate_left
   ·(intro w hSw; (try dsimp only at hSw); go_simp; try with_reducible rfl)
   simp only [Act.put, zA, zB, zC]
   refine tk13 (v := ?_) (by kernel_rfl) (by kernel_rfl) (by kernel_rfl) (fun _ _ _ h => h) (Or.inl ⟨by rfl, ?_⟩) hHeld ?_
   rotate_left
   ·(intro w hSw; (try dsimp only at hSw); go_simp; try with_reducible rfl)
   simp only [Act.put, zA, zB, zC]
   refine wpAnyH_done (by kernel_rfl) ?_ _
   go_wp2_with fail
   go_ret
   exact ⟨rfl, HB2.out⟩
  | false =>
   go_enter Try.func86, Try.ntmps86
   go_wp2_with fail
   have hS : W1.drew.cell? ⟨w.heap.size, 2, none⟩ = some (.int .i64 k) ∧ W1.drew.cell? ⟨w.heap.size, 3, none⟩ = some (.string s) := ⟨c2, c3⟩
   refine wp_region_held (S := fun w' : World => w'.cell? ⟨w.heap.size, 2, none⟩ = some (.int .i64 k) ∧ w'.cell? ⟨w.heap.size, 3, none⟩ = some (.string s)) mixed ?_
   change wpAnyH _ _ _ _ _ _ _ _ W1.drew
   have HHS := Lib.hid hS
   refine tk0 (v := ?_) (by kernel_rfl) (by kernel_rfl) (by kernel_rfl) (fun _ _ _ h => h) (Or.inl ⟨by rfl, ?_⟩) hS ?_
   rotate_left
   ·(intro w hSw; (try dsimp only at hSw); go_simp; try with_reducible rfl)
   simp only [Act.put, zA, zB, zC]
   refine tk1 (v := ?_) (by kernel_rfl) (by kernel_rfl) (by kernel_rfl) (fun _ _ _ h => h) (Or.inl ⟨by rfl, ?_⟩) hS ?_
   rotate_left
   ·(intro w hSw; (try dsimp only at hSw); go_simp; try with_reducible rfl)
   simp only [Act.put, zA, zB, zC]
   refine tk3 (v := ?_) (by kernel_rfl) (by kernel_rfl) (by kernel_rfl) (fun _ _ _ h => h) (Or.inl ⟨by rfl, ?_⟩) hS ?_
   rotate_left
   ·(intro w hSw; (try dsimp only at hSw); go_simp; try with_reducible rfl)
   simp only [Act.put, zA, zB, zC]
   refine tk4 (v := ?_) (by kernel_rfl) (by kernel_rfl) (by kernel_rfl) (fun _ _ _ h => h) (Or.inl ⟨by rfl, ?_⟩) hS ?_
   rotate_left
   ·(intro w hSw; (try dsimp only at hSw); go_simp; try with_reducible rfl)
   simp only [Act.put, zA, zB, zC]
   refine tk5 (v := ?_) (by kernel_rfl) (by kernel_rfl) (by kernel_rfl) (fun _ _ _ h => h) (Or.inl ⟨by rfl, ?_⟩) hS ?_
   rotate_left
   ·(intro w hSw; (try dsimp only at hSw); go_simp; try with_reducible rfl)
   simp only [Act.put, zA, zB, zC]
   refine wpAnyH_ready (rs := [2]) (by kernel_rfl) (by simp) (st2 (fun K hK => ?_) AllReadyH.nil)
   go_simp
   refine (KH.out _).mono ?_
   rintro _ v ⟨rfl, rfl⟩
   go_wp2_with fail
   refine hK.out _ _ ?_ (fun hHeld => ?_)
   ·exact HHS.out
   clear hK K
   try simp only [Act.put, zA, zB, zC]
   refine tk6 (v := ?_) (by kernel_rfl) (by kernel_rfl) (by kernel_rfl) (fun _ _ _ h => h) (Or.inl ⟨by rfl, ?_⟩) hHeld ?_
   rotate_left
   ·(intro w hSw; (try dsimp only at hSw); go_simp; try with_reducible rfl)
   simp only [Act.put, zA, zB, zC]
   refine tk7 (v := ?_) (by kernel_rfl) (by kernel_rfl) (by kernel_rfl) (fun _ _ _ h => h) (Or.inl ⟨by rfl, ?_⟩) hHeld ?_
   rotate_left
   ·(intro w hSw; (try dsimp only at hSw); go_simp; try with_reducible rfl)
   simp only [Act.put, zA, zB, zC]
   refine tk8 (v := undef) (by kernel_rfl) (by kernel_rfl) (by kernel_rfl) (fun _ _ _ h => h) (Or.inr ⟨by rfl, rfl⟩) hHeld ?_
   simp only [Act.put, zA, zB, zC]
   refine tk9 (v := undef) (by kernel_rfl) (by kernel_rfl) (by kernel_rfl) (fun _ _ _ h => h) (Or.inr ⟨by rfl, rfl⟩) hHeld ?_
   simp only [Act.put, zA, zB, zC]
   refine wpAnyH_ready (rs := [10]) (by kernel_rfl) (by simp) (st10 (fun K hK => ?_) AllReadyH.nil)
   go_simp
   refine hK.out _ _ ?_ (fun hHeld => ?_)
   ·exact HHS.out
   clear hK K
   try simp only [Act.put, zA, zB, zC]
   refine tk11 (v := undef) (by kernel_rfl) (by kernel_rfl) (by kernel_rfl) (fun _ _ _ h => h) (Or.inr ⟨by rfl, rfl⟩) hHeld ?_
   simp only [Act.put, zA, zB, zC]
   refine tk12 (v := ?_) (by kernel_rfl) (by kernel_rfl) (by kernel_rfl) (fun _ _ _ h => h) (Or.inl ⟨by rfl, ?_⟩) hHeld ?_
   rotate_left
   ·(intro w hSw; (try dsimp only at hSw); go_simp; try with_reducible rfl)
   simp only [Act.put, zA, zB, zC]
   refine tk13 (v := ?_) (by kernel_rfl) (by kernel_rfl) (by kernel_rfl) (fun _ _ _ h => h) (Or.inl ⟨by rfl, ?_⟩) hHeld ?_
   rotate_left
   ·(intro w hSw; (try dsimp only at hSw); go_simp; try with_reducible rfl)
   simp only [Act.put, zA, zB, zC]
   refine wpAnyH_done (by kernel_rfl) ?_ _
   go_wp2_with fail
   go_ret
   exact ⟨rfl, (by repeat' (first | (with_reducible exact HB.out) | (with_reducible refine Below.setCell ?_ ?_ _) | (with_reducible refine Below.alloc ?_ ?_ _) | (with_reducible refine Below.drew ?_) | (with_reducible refine below_drewN ?_ _) | (with_reducible exact Below.refl _ _) | omega | (simp; done) | (simp; omega)))⟩
end Go.Proofs.Ytoaonficdkgfiaa
namespace Go.Proofs.Ytoaonficdkgfiaa
open Go.RowKit Un MapKept

def RuN (r : Ru) : Prop := nin r.whn ∧ nin r.giv
theorem kC {w : World} {b : Nat} {l : List Value} {r : Ru} {x y : Kd} (h : BoxL w b l) (hr : RuC r x y l) : BoxL w b l ∧ (∀ (j : Nat) (v : Value), (nC r.whn x)[j]? = some v → w.cell? ⟨b, 7 + j, none⟩ = some v) ∧ ∀ (j : Nat) (v : Value), (nC r.giv y)[j]? = some v → w.cell? ⟨b, 17 + j, none⟩ = some v :=
 ⟨h, fun j v hv => (h _ v (hr.wh j v hv)).1, fun j v hv => (h _ v (hr.gi j v hv)).1⟩
set_option maxRecDepth 100000 in
set_option maxHeartbeats 8000000 in
theorem uisRule_any (r : Ru) (hn : RuN r) (x y : Kd) (l : List Value) (hr : RuC r x y l) (A : Nat → Prop) (w : World) (hm : RuM w A r x y) :
  Calls Try.prog 62 #[.agg l.toArray] w fun e w' => e = .returned (.bool (formR vld r)) ∧ RowKit.Below w.heap.size w w' := by
 have A1 := (Below.refl w.heap.size w).alloc (Nat.le_refl _) (.cells l.toArray 58)
 have X1 := BoxL.new w l 58
 have hl := hr.len
 obtain ⟨-, hw, hg⟩ := kC X1 hr
 have KN := Lib.hid (fun w => uisName_any r.nm w)
 have KA := Lib.hid (fun w => uisName_any r.act w)
 have KW := Lib.hid (fun V h => uisExpr_any r.whn hn.1 A x V (hm.1.bel h))
 have KG := Lib.hid (fun V h => uisExpr_any r.giv hn.2 A y V (hm.2.bel h))
 obtain ⟨c0, -⟩ := X1 0 _ hr.f0
 obtain ⟨c2, -⟩ := X1 2 _ hr.f2
 obtain ⟨c3, -⟩ := X1 3 _ hr.f3
 have HB := Lib.hid A1
 have e1 := nm_test r.act
 obtain ⟨R, hR⟩ : ∃ R, R = formR vld r := ⟨_, rfl⟩
 rw [← hR]
 have HR : Hid (R = (decide (1 ≤ r.kind) && decide (r.kind ≤ 7) && isName r.nm && (r.act.isEmpty || isName r.act) && form vld r.whn && form vld r.giv)) := hR
 clear hR hn hm A1
 have hb1 : w.heap.size < (w.alloc (.cells l.toArray 58)).heap.size := by simp
 obtain ⟨nm, ver, kind, act, fr, un, known, wh, gi, pl⟩ := r
 simp only at hw hg KN KA KW KG c0 c2 c3 e1 HR
 generalize isName nm = N at *
 generalize isName act = C at *
 generalize act.isEmpty = E at *
 generalize form vld wh = F at *
 generalize form vld gi = G at *
 generalize bs nm = s at *
 generalize bs act = sa at *
 clear hr
 obtain ⟨op1, pl1, nm1, n1, d1, ⟨f1, m1, a1, t1⟩, k1⟩ := wh
 obtain ⟨op2, pl2, nm2, n2, d2, ⟨f2, m2, a2, t2⟩, k2⟩ := gi
 obtain ⟨q1, p1⟩ := x
 obtain ⟨q2, p2⟩ := y
 simp only [nV, nC] at KW KG
 simp only [nC] at hw hg
 have w0 := hw 0 _ rfl
 have w1 := hw 1 _ rfl
 have w2 := hw 2 _ rfl
 have w3 := hw 3 _ rfl
 have w4 := hw 4 _ rfl
 have w5 := hw 5 _ rfl
 have w6 := hw 6 _ rfl
 have w7 := hw 7 _ rfl
 have w8 := hw 8 _ rfl
 have w9 := hw 9 _ rfl
 have g0 := hg 0 _ rfl
 have g1 := hg 1 _ rfl
 have g2 := hg 2 _ rfl
 have g3 := hg 3 _ rfl
 have g4 := hg 4 _ rfl
 have g5 := hg 5 _ rfl
 have g6 := hg 6 _ rfl
 have g7 := hg 7 _ rfl
 have g8 := hg 8 _ rfl
 have g9 := hg 9 _ rfl
 simp only [Nat.add_zero, Nat.reduceAdd] at w0 w1 w2 w3 w4 w5 w6 w7 w8 w9 g0 g1 g2 g3 g4 g5 g6 g7 g8 g9
 clear hw hg
 have HC := Lib.hid X1
 generalize bs nm1 = s1 at *
 generalize bs nm2 = s2 at *
 generalize hW1 : w.alloc (.cells l.toArray 58) = W1 at *
 by_cases h1 : 1 ≤ kind
 ·by_cases h2 : kind ≤ 7
  ·rw [decide_eq_true h1, decide_eq_true h2] at HR
   go_enter Try.func62, Try.ntmps62
   go_wp2_with fail
   refine (KN.out _).mono ?_
   rintro _ V1 ⟨rfl, hb⟩
   subst hb
   have HB1 := HB
   cases N with
   | false =>
    go_wp2_with fail
    go_ret
    exact ⟨ret_bool (by rw [HR.out]; rfl), HB1.out⟩
   | true =>
    cases E with
    | true =>
     go_wp2_with fail
     refine (KW.out _ HB1.out).mono ?_
     rintro _ V3 ⟨rfl, hb⟩
     replace g0 := (hb.cell (World.block_lt_of_cell? _ _ g0)).trans g0
     replace g1 := (hb.cell (World.block_lt_of_cell? _ _ g1)).trans g1
     replace g2 := (hb.cell (World.block_lt_of_cell? _ _ g2)).trans g2
     replace g3 := (hb.cell (World.block_lt_of_cell? _ _ g3)).trans g3
     replace g4 := (hb.cell (World.block_lt_of_cell? _ _ g4)).trans g4
     replace g5 := (hb.cell (World.block_lt_of_cell? _ _ g5)).trans g5
     replace g6 := (hb.cell (World.block_lt_of_cell? _ _ g6)).trans g6
     replace g7 := (hb.cell (World.block_lt_of_cell? _ _ g7)).trans g7
     replace g8 := (hb.cell (World.block_lt_of_cell? _ _ g8)).trans g8
     replace g9 := (hb.cell (World.block_lt_of_cell? _ _ g9)).trans g9
     have HB3 := Lib.hid (HB1.out.trans (hb.mono HB1.out.size))
     clear hb
     cases F with
     | false =>
      go_wp2_with fail
      go_ret
      exact ⟨ret_bool (by rw [HR.out]; simp), HB3.out⟩
     | true =>
      go_wp2_with fail
      refine (KG.out _ HB3.out).mono ?_
      rintro _ V4 ⟨rfl, hb⟩
      have HB4 := Lib.hid (HB3.out.trans (hb.mono HB3.out.size))
      clear hb
      go_wp2_with fail
      go_ret
      exact ⟨ret_bool (by rw [HR.out]; simp), HB4.out⟩
    | false =>
     go_wp2_with fail
     refine (KA.out _).mono ?_
     rintro _ V2 ⟨rfl, hb⟩
     subst hb
     have HB2 := HB
     cases C with
     | false =>
      go_wp2_with fail
      go_ret
      exact ⟨ret_bool (by rw [HR.out]; simp), HB2.out⟩
     | true =>
      go_wp2_with fail
      refine (KW.out _ HB2.out).mono ?_
      rintro _ V3 ⟨rfl, hb⟩
      replace g0 := (hb.cell (World.block_lt_of_cell? _ _ g0)).trans g0
      replace g1 := (hb.cell (World.block_lt_of_cell? _ _ g1)).trans g1
      replace g2 := (hb.cell (World.block_lt_of_cell? _ _ g2)).trans g2
      replace g3 := (hb.cell (World.block_lt_of_cell? _ _ g3)).trans g3
      replace g4 := (hb.cell (World.block_lt_of_cell? _ _ g4)).trans g4
      replace g5 := (hb.cell (World.block_lt_of_cell? _ _ g5)).trans g5
      replace g6 := (hb.cell (World.block_lt_of_cell? _ _ g6)).trans g6
      replace g7 := (hb.cell (World.block_lt_of_cell? _ _ g7)).trans g7
      replace g8 := (hb.cell (World.block_lt_of_cell? _ _ g8)).trans g8
      replace g9 := (hb.cell (World.block_lt_of_cell? _ _ g9)).trans g9
      have HB3 := Lib.hid (HB2.out.trans (hb.mono HB2.out.size))
      clear hb
      cases F with
      | false =>
       go_wp2_with fail
       go_ret
       exact ⟨ret_bool (by rw [HR.out]; simp), HB3.out⟩
      | true =>
       go_wp2_with fail
       refine (KG.out _ HB3.out).mono ?_
       rintro _ V4 ⟨rfl, hb⟩
       have HB4 := Lib.hid (HB3.out.trans (hb.mono HB3.out.size))
       clear hb
       go_wp2_with fail
       go_ret
       exact ⟨ret_bool (by rw [HR.out]; simp), HB4.out⟩
  ·rw [decide_eq_false h2] at HR
   go_enter Try.func62, Try.ntmps62
   go_wp2_with fail
   go_ret
   exact ⟨ret_bool (by rw [HR.out]; simp), HB.out⟩
 ·rw [decide_eq_false h1] at HR
  go_enter Try.func62, Try.ntmps62
  go_wp2_with fail
  go_ret
  exact ⟨ret_bool (by rw [HR.out]; simp), HB.out⟩
end Go.Proofs.Ytoaonficdkgfiaa
namespace Go.Proofs.Ytoaonficdkgfiaa
open Go.RowKit Un MapKept

/-- Rules in memory. -/
structure RsM (w : World) (A : Nat → Prop) (p : Option Addr) (b off : Nat) (rs : List Ru) (rows : List (List Value)) : Prop where
 sl : SlR w p b off rs.length 28 rows
 ru : ∀ (i : Nat) (h : i < rs.length) (h' : i < rows.length), ∃ x y, RuC rs[i] x y rows[i] ∧ RuM w A rs[i] x y
 nn : ∀ r ∈ rs, RuN r
theorem RsM.bel {w w1 : World} {A : Nat → Prop} {p : Option Addr} {b off : Nat} {rs : List Ru} {rows : List (List Value)} (h : RsM w A p b off rs rows) (hB : RowKit.Below w.heap.size w w1) : RsM w1 A p b off rs rows :=
 ⟨h.sl.bel hB, fun i h1 h2 => by obtain ⟨x, y, a, b⟩ := h.ru i h1 h2; exact ⟨x, y, a, b.bel hB⟩, h.nn⟩
theorem RsM.rc {w : World} {A : Nat → Prop} {p : Option Addr} {b off : Nat} {rs : List Ru} {rows : List (List Value)} (h : RsM w A p b off rs rows) : RsC w p b off rs rows := ⟨h.sl, fun i h1 h2 => by obtain ⟨x, y, a, b⟩ := h.ru i h1 h2; exact ⟨x, y, a⟩⟩
set_option maxRecDepth 100000 in
set_option maxHeartbeats 8000000 in
theorem uareBylaws_any (L : List Dc) (rs : List Ru) (rows : List (List Value)) (pd pr : Option Addr) (bd od cd br orr cr : Nat) (A : Nat → Prop) (w : World) (hD : SlR w pd bd od L.length 8 (L.map dC)) (hR : RsM w A pr br orr rs rows) :
  Calls Try.prog 43 #[.agg #[.slice pd L.length cd, .slice pr rs.length cr]] w fun e w' => e = .returned (.bool (formC vld L rs)) ∧ RowKit.Below w.heap.size w w' := by
 have KF := Lib.hid (fun V h => uareFacts_any L pd bd od cd V (hD.bel h))
 have KR := Lib.hid (fun (i : Nat) (hi : i < rs.length) (h' : i < rows.length) V (hV : RowKit.Below w.heap.size w V) => by
  obtain ⟨x, y, h1, h2⟩ := hR.ru i hi h'
  exact uisRule_any rs[i] (hR.nn _ (List.getElem_mem hi)) x y rows[i] h1 A V (h2.bel hV))
 have KO := Lib.hid (fun (i : Nat) (hi : i < rs.length) (h' : i < rows.length) => by
  obtain ⟨x, y, h1, h2⟩ := hR.ru i hi h'
  exact (show rows[i].length = 28 ∧ ∀ u ∈ rows[i], u.oneCell' = true from ⟨h1.len, h1.one⟩))
 have HS := Lib.hid hR.sl
 have hln := hR.sl.ln
 have hmax := hR.sl.max
 have A1 := (Below.refl w.heap.size w).alloc (Nat.le_refl _) (.cells #[.slice pd L.length cd, .slice pr rs.length cr] 25)
 have X1 := Lib.hid (BoxL.new w [.slice pd L.length cd, .slice pr rs.length cr] 25)
 have HB := Lib.hid A1
 obtain ⟨R, hRR⟩ : ∃ R, R = formC vld L rs := ⟨_, rfl⟩
 rw [← hRR]
 have HR : Hid (R = (formD L && decide (rs.length ≤ 100) && rs.all (formR vld))) := hRR
 clear hRR hD hR A1
 generalize hW1 : w.alloc (.cells #[.slice pd L.length cd, .slice pr rs.length cr] 25) = W1 at *
 obtain ⟨c0, -⟩ := X1.out 0 _ rfl
 go_enter Try.func43, Try.ntmps43
 go_wp2_with fail
 refine (KF.out _ HB.out).mono ?_
 rintro _ V1 ⟨rfl, hb⟩
 have HB1 := Lib.hid (HB.out.trans (hb.mono HB.out.size))
 have X2 := Lib.hid (X1.out.bel (by simp) hb)
 clear hb KF HB X1 c0
 obtain ⟨c1, -⟩ := X2.out 1 _ rfl
 cases hf : formD L with
 | false =>
  rw [hf] at HR
  clear hf
  go_wp2_with fail
  go_ret
  exact ⟨ret_bool (by rw [HR.out]; rfl), HB1.out⟩
 | true =>
  rw [hf] at HR
  clear hf
  by_cases h100 : 100 < rs.length
  ·have hz : (100 : Int) < (rs.length : Int) := by omega
   rw [decide_eq_false (by omega)] at HR
   go_wp2_with fail
   go_ret
   exact ⟨ret_bool (by rw [HR.out]; rfl), HB1.out⟩
  ·have hz : ¬ (100 : Int) < (rs.length : Int) := by omega
   rw [decide_eq_true (by omega)] at HR
   go_wp2_with fail
   clear hz
   go_loopg [18] rs.length (fun g v18 wr => ∃ i : Nat, i ≤ rs.length ∧ rs.length - i ≤ g ∧ v18 = .int .i64 i ∧ Hid (R = (rs.drop i).all (formR vld)) ∧ Hid (RowKit.Below w.heap.size w wr))
   case atStart => exact ⟨0, Nat.zero_le _, by omega, by simp, by show _ = _; rw [HR.out]; simp, HB1⟩
   case round =>
    obtain ⟨i, hi, hg, rfl, HM, HW⟩ := hrel
    by_cases hlt : i < rs.length
    ·have hz : (i : Int) < (rs.length : Int) := by omega
     have hq := HS.out.ptr (by omega)
     subst hq
     have hr := (HS.out.bel HW.out).at_ i rows[i] (List.getElem?_eq_getElem (by omega))
     have hld := load_rule wr br (orr + i * 28) rows[i] hr.1 hr.2
     have hlo := KO.out i hlt (by omega)
     have KQ := Lib.hid (fun V hV => KR.out i hlt (by omega) V hV)
     have E3 : Hid (R = (formR vld rs[i] && (rs.drop (i + 1)).all (formR vld))) := by
      show _ = _
      rw [HM.out, List.drop_eq_getElem_cons hlt]
      rfl
     clear hr HM
     generalize formR vld rs[i] = x at *
     generalize rows[i] = l at *
     have e2 : IntKind.i64.wrap ((i : Int) + 1) = ((i + 1 : Nat) : Int) := by rw [IntWalk.i64_in _ (by omega)]; rfl
     go_wp2_with (first | ((with_reducible show wpList _ _ _ ({ dst := some 21, op := _, type := _, pos := _, after := _, guard := _ } :: _) _ _); refine wl_loadP rfl rfl rfl hld ?_) | ((with_reducible show wpList _ _ _ ({ dst := some 4, op := _, type := _, pos := _, after := _, guard := _ } :: _) _ _); refine wl_rbox rfl rfl rfl rfl hlo.1 hlo.2 rfl rfl ?_; intro V hb hsz hx; have HB3 := Lib.hid (HW.out.trans (hb.mono HW.out.size)); have hld2 := load_rule V wr.heap.size 0 l hlo.1 (fun j v hv => by rw [Nat.zero_add]; exact (hx j v hv).1); clear hb hsz hx) | ((with_reducible show wpList _ _ _ ({ dst := some 22, op := _, type := _, pos := _, after := _, guard := _ } :: _) _ _); refine wl_loadP rfl rfl rfl hld2 ?_))
     refine (KQ.out _ HB3.out).mono ?_
     rintro _ v ⟨rfl, hb⟩
     have HW3 := Lib.hid (HB3.out.trans (hb.mono HB3.out.size))
     clear hb KQ HB3 hld hld2
     cases x with
     | false =>
      go_wp2_with fail
      go_ret
      exact ⟨ret_bool (by rw [E3.out]; rfl), HW3.out⟩
     | true =>
      go_wp2_with fail
      go_roundg (rs.length - (i + 1))
      case measure => omega
      case rel => exact ⟨i + 1, by omega, Nat.le_refl _, by simp, by show _ = _; rw [E3.out]; simp, HW3⟩
    ·have hz : ¬ (i : Int) < (rs.length : Int) := by omega
     have hie : i = rs.length := by omega
     subst hie
     go_wp2_with fail
     go_ret
     exact ⟨ret_bool (by rw [HM.out, List.drop_length]; rfl), HW.out⟩
end Go.Proofs.Ytoaonficdkgfiaa
