/- Texts on units: LPar LPro LCpy LRep LShi RFnd RRuM -/
import Derived.Test.YtoaonficdkgfiaaY24
import Derived.Test.YtoaonficdkgfiaaY22
import Derived.Test.YtoaonficdkgfiaaY25
import Derived.Test.YtoaonficdkgfiaaY15
import Derived.Test.YtoaonficdkgfiaaY26
import Derived.Test.YtoaonficdkgfiaaY30
import Derived.Test.YtoaonficdkgfiaaY29
namespace Go.Proofs.Ytoaonficdkgfiaa
open Go.RowKit Un MapKept

/-- An expression's operands lie as they lay, in all later worlds. -/
theorem kids_at {w : World} {A : Nat → Prop} {t : Nd} {x : Kd} (hx : NdM w A t x) : ∃ bq off, (0 < t.ks.length → x.q = some ⟨bq, off, none⟩) ∧ t.ks.length ≤ 9223372036854775807 ∧ ∀ i (hi : i < t.ks.length), ∃ y : Kd, ∀ V, RowKit.Below w.heap.size w V → (∀ (j : Nat) (v : Value), (nC t.ks[i] y)[j]? = some v → V.cell? ⟨bq, off + i * 10 + j, none⟩ = some v) ∧ NdM V A t.ks[i] y := by
 obtain ⟨op, pl, nm, n, d, u, ks⟩ := t
 simp only [NdM] at hx
 obtain ⟨b, off, hp, hkl, hK⟩ := hx
 refine ⟨b, off, fun h => (hp h).1, hkl, fun i hi => ?_⟩
 obtain ⟨y, h1, h2⟩ := KdM.get hK i hi
 exact ⟨y, fun V hV => ⟨fun j v hv => (hV.cell (p := ⟨b, off + i * 10 + j, none⟩) (hp (by have : i < ks.length := hi; show 0 < ks.length; omega)).2.2).trans (h1 j v hv), NdM.bel hV h2⟩⟩
end Go.Proofs.Ytoaonficdkgfiaa
namespace Go.Proofs.Ytoaonficdkgfiaa
open Go.RowKit Un MapKept

def gU : Got → U
 | .ok u => u
 | .er _ _ => uNum
def gE : Got → Int
 | .ok _ => 0
 | .er e _ => e
def gP : Got → Int
 | .ok _ => 0
 | .er _ p => p
theorem OfV_eq (g : Got) : OfV g = .tuple #[.agg (uC (gU g)).toArray, .int .i64 (gE g), .int .i64 (gP g)] := by cases g <;> rfl
end Go.Proofs.Ytoaonficdkgfiaa
namespace Go.Proofs.Ytoaonficdkgfiaa
open Go.RowKit Un MapKept

end Go.Proofs.Ytoaonficdkgfiaa
namespace Go.Proofs.Ytoaonficdkgfiaa
open Go.RowKit Un MapKept

section
variable {P : Program} {ops : Array Oper} {rest : List Oper} {o : Oper} {a : Act} {w w' : World} {Q : Exit → Act → World → Prop} {t : TypeId} {v : Value}
end
end Go.Proofs.Ytoaonficdkgfiaa
namespace Go.Proofs.Ytoaonficdkgfiaa
open Go.RowKit Un MapKept

theorem okNode_len {t : Nd} (h : okNode vld t = true) : t.ks.length ≤ 3 := by
 cases t with
 | mk op pl nm n d u ks =>
  simp only [okNode, Bool.and_eq_true, decide_eq_true_eq] at h
  have := h.1
  simp only [Nd.ks]
  unfold arity at this
  split at this
  ·omega
  ·split at this
   ·omega
   ·split at this
    ·omega
    ·split at this <;> omega
theorem below_grown {w u v : World} {r : Option Nat} (h : RowKit.Below w.heap.size w u) (g : u.grownBy v r) (hr : ∀ j, r = some j → w.heap.size ≤ j) : RowKit.Below w.heap.size w v :=
 ⟨g.os.trans h.os, g.tape.trans h.tape, g.output.trans h.output, Nat.le_trans h.size g.size, fun k hk => (g.block k (Nat.lt_of_lt_of_le hk h.size) (fun e => by have := hr k e.symm; omega)).trans (h.block k hk)⟩
end Go.Proofs.Ytoaonficdkgfiaa
namespace Go.Proofs.Ytoaonficdkgfiaa
open Go.RowKit Un MapKept

/-- A unit, or an error and its place, as cells. -/
@[reducible] def g6 (g : Got) : List Value := [.bool (gU g).f, .int .i64 (gU g).m, .int .i64 (gU g).a, .int .i64 (gU g).d, .int .i64 (gE g), .int .i64 (gP g)]
theorem alloc_got (w : World) : (Instr.alloc 76 true (.tuple #[])).run Try.prog w = .ok (.pointer (some ⟨w.heap.size, 0, none⟩)) (w.alloc (.cells ([.bool false, .int .i64 0, .int .i64 0, .int .i64 0, .int .i64 0, .int .i64 0] : List Value).toArray 76)) := by kernel_rfl
def zGotL : List Value := [.bool false, .int .i64 0, .int .i64 0, .int .i64 0, .int .i64 0, .int .i64 0]
theorem wl_gbox {ops : Array Oper} {rest : List Oper} {o1 o2 : Oper} {a : Act} {v : World} {Q : Exit → Act → World → Prop} {L : List Value} (g1 : o1.guard = none) (g2 : o2.guard = none) (h1 : o1.op = .alloc 76) {x2 y2 : Operand} (h2 : o2.op = .store 76 x2 y2) (hL : L.length = 6) (oL : ∀ u ∈ L, u.oneCell' = true)
  (hx : (a.put o1.dst (.pointer (some ⟨v.heap.size, 0, none⟩))).eval x2 = .pointer (some ⟨v.heap.size, 0, none⟩)) (hy : (a.put o1.dst (.pointer (some ⟨v.heap.size, 0, none⟩))).eval y2 = .agg L.toArray)
  (h : ∀ V : World, RowKit.Below v.heap.size v V → V.heap.size = v.heap.size + 1 → BoxL V v.heap.size L → wpList Try.prog ops Q rest ((a.put o1.dst (.pointer (some ⟨v.heap.size, 0, none⟩))).put o2.dst undef) V) :
  wpList Try.prog ops Q (o1 :: o2 :: rest) a v := by
 have b1 := (Below.refl v.heap.size v).alloc (Nat.le_refl _) (.cells zGotL.toArray 76)
 have D := BoxL.new v zGotL 76
 have hs : (v.alloc (.cells zGotL.toArray 76)).heap.size = v.heap.size + 1 := by simp
 refine wl_alloc g1 h1 (alloc_got v) ?_
 change wpList _ _ _ _ _ (v.alloc (.cells zGotL.toArray 76))
 generalize v.alloc (.cells zGotL.toArray 76) = V0 at *
 refine wl_store g2 h2 hx hy (store_row 76 6 (by kernel_rfl) V0 v.heap.size zGotL L D rfl hL oL) ?_
 have k1 := kept_setCells (b := v.heap.size) (w := V0) L 0 V0 (Kept.refl _ _)
 refine h _ (b1.trans (k1.below (Nat.le_refl _) (by omega))) (by rw [setCells_size]; exact hs) (D.cells (by rw [hL]; rfl))
theorem info_Un : (Try.prog.info? 29).map (fun i => (i.zero.map (·.cells.size), i.size, decide (i.bytes ≤ 1000))) = some (some 4, 4, true) := by kernel_rfl
theorem slice_unitL (u : U) (w : World) : (Instr.buildSlice 88 1 #[(0, .agg (uC u).toArray)]).run Try.prog w = .ok (.slice (some ⟨w.heap.size, 0, none⟩) 1 1) (w.alloc (.cells (uC u).toArray 29)) := by
 obtain ⟨a, b, c, d⟩ := u
 kernel_rfl
theorem box6 {w : World} {b : Nat} {x0 x1 x2 x3 x4 x5 : Value} (h : BoxL w b [x0, x1, x2, x3, x4, x5]) : w.cell? ⟨b, 0, none⟩ = some x0 ∧ w.cell? ⟨b, 1, none⟩ = some x1 ∧ w.cell? ⟨b, 2, none⟩ = some x2 ∧ w.cell? ⟨b, 3, none⟩ = some x3 ∧ w.cell? ⟨b, 4, none⟩ = some x4 ∧ w.cell? ⟨b, 5, none⟩ = some x5 :=
 ⟨(h 0 _ rfl).1, (h 1 _ rfl).1, (h 2 _ rfl).1, (h 3 _ rfl).1, (h 4 _ rfl).1, (h 5 _ rfl).1⟩
theorem build_got (u : U) (w : World) : (Instr.build 76 #[(0, .agg (uC u).toArray)]).run Try.prog w = .ok (.agg (g6 (.ok u)).toArray) w := by
 obtain ⟨a, b, c, d⟩ := u
 kernel_rfl
theorem g6_u (g : Got) (j : Nat) (v : Value) (h : (uC (gU g))[j]? = some v) : (g6 g)[j]? = some v := by
 match j, h with
 | 0, h => exact h
 | 1, h => exact h
 | 2, h => exact h
 | 3, h => exact h
 | j + 4, h => simp [uC] at h
theorem dC_u (d : Dc) (j : Nat) (v : Value) (h : (uC d.u)[j]? = some v) : (dC d)[1 + j]? = some v := by
 match j, h with
 | 0, h => exact h
 | 1, h => exact h
 | 2, h => exact h
 | 3, h => exact h
 | j + 4, h => simp [uC] at h
theorem look_drop (L : List Dc) (nm : List UInt8) (i : Nat) (h : i < L.length) : Un.look (Un.facts (L.drop i)) nm = if L[i].nm == nm then some L[i].u else Un.look (Un.facts (L.drop (i + 1))) nm := by
 rw [List.drop_eq_getElem_cons h]
 simp only [Un.look, Un.facts, List.map_cons, List.find?_cons]
 cases L[i].nm == nm <;> rfl
theorem basic_m {u : U} (h : basic u = true) : u.m = 0 ∨ u.m = 1 := by
 simp only [basic, Bool.or_eq_true, beq_iff_eq] at h
 rcases h with (((rfl | rfl) | rfl) | rfl) | rfl <;> simp [uFlag, uNum, uMoney, uArea, uDays]
set_option maxRecDepth 100000 in
set_option maxHeartbeats 12000000 in
theorem rFind_any (L : List Dc) (hf : formD L = true) (N : Nat) : ∀ (t : Nd), size t ≤ N → ∀ (g : Nat), wf vld g t = true → ∀ (p : Option Addr) (b off c : Nat) (A : Nat → Prop) (x : Kd) (w : World), SlR w p b off L.length 8 (L.map dC) → NdM w A t x →
  Calls Try.prog 39 #[.slice p L.length c, nV t x] w fun e w' => e = .returned (.agg (g6 (fnd (Un.facts L) t)).toArray) ∧ RowKit.Below w.heap.size w w' := by
 induction N with
 | zero => intro t h; cases t; simp [size] at h
 | succ N ih =>
  intro t hN g hwf p b off c A x w hS hx
  obtain ⟨bq, oq, hq, hkl, hk⟩ := kids_at hx
  obtain ⟨_, hok, hws⟩ := wf_ks hwf
  have hn3 := okNode_len hok
  have hgs : ∀ us, fnds (Un.facts L) t.ks = .inr us → ∀ u ∈ us, good u = true := fun us h => fnds_good (facts_good hf) t.ks _ us hws h
  clear hx hwf
  obtain ⟨op, pl, nm, n0, d0, ⟨uf, um, ua, ud⟩, ks⟩ := t
  obtain ⟨xq, xc⟩ := x
  simp only [Nd.ks] at hq hkl hk hws hn3 hgs
  simp only [size] at hN
  have hok1 := hok
  simp only [okNode, Bool.and_eq_true, decide_eq_true_eq] at hok1
  have har := hok1.1
  have hbm : op = 1 → um = 0 ∨ um = 1 := fun h => by
   have h2 := hok1.2
   rw [if_pos h] at h2
   simp only [Bool.and_eq_true] at h2
   exact basic_m h2.2.2
  have HQ := Lib.hid hq
  have HGS := Lib.hid hgs
  have KS := Lib.hid (fun V (hV : RowKit.Below w.heap.size w V) => hS.bel hV)
  have hmx := hS.max
  have KI : Hid (∀ i (hi : i < ks.length), ∃ li : List Value, li.length = 10 ∧ ∀ V, RowKit.Below w.heap.size w V → (∀ (j : Nat) (v : Value), li[j]? = some v → V.cell? ⟨bq, oq + i * 10 + j, none⟩ = some v) ∧ Calls Try.prog 39 #[.slice p L.length c, .agg li.toArray] V fun e w' => e = .returned (.agg (g6 (fnd (Un.facts L) ks[i])).toArray) ∧ RowKit.Below V.heap.size V w') := fun i hi => by
   obtain ⟨y, hy⟩ := hk i hi
   refine ⟨nC ks[i] y, nC_len _ _, fun V hV => ⟨(hy V hV).1, ?_⟩⟩
   exact ih ks[i] (by have := size_get ks i hi; omega) _ (wfs_get hws _ (List.getElem_mem hi)) p b off c A y V (hS.bel hV) (hy V hV).2
  clear ih hk hq hws hgs hok hok1 hS
  obtain ⟨R, hR⟩ : ∃ R, R = fnd (Un.facts L) (.mk op pl nm n0 d0 ⟨uf, um, ua, ud⟩ ks) := ⟨_, rfl⟩
  rw [← hR]
  have HR : Hid (R = if op = 1 then (if uf = true ∨ (um ≠ 0 ∧ d0 ≠ 1) then .er 12 pl else .ok ⟨uf, um, ua, ud⟩) else if op = 2 then (match Un.look (Un.facts L) nm with | some u => .ok u | none => .er 11 pl) else match fnds (Un.facts L) ks with | .inl (e, p) => .er e p | .inr us => match opU op us with | some u => .ok u | none => .er 12 pl) := by
   show _ = _
   rw [hR]
   simp only [fnd]
   by_cases h1 : op = 1
   ·rw [if_pos h1, if_pos h1]
   ·rw [if_neg h1, if_neg h1]
    by_cases h2 : op = 2
    ·rw [if_pos h2, if_pos h2]
     cases Un.look (Un.facts L) nm <;> rfl
    ·rw [if_neg h2, if_neg h2]
     cases fnds (Un.facts L) ks with
     | inl x => rfl
     | inr us => simp only; cases opU op us <;> rfl
  clear hR
  show Calls _ _ #[.slice p L.length c, .agg #[.int .i64 op, .int .i64 pl, .string (bs nm), .int .i64 n0, .int .i64 d0, .bool uf, .int .i64 um, .int .i64 ua, .int .i64 ud, .slice xq ks.length xc]] _ _
  have HNM : Hid (∀ i (h : i < L.length), ((bs L[i].nm).toList == (bs nm).toList) = (L[i].nm == nm)) := fun i h => by rw [bs_list, bs_list]
  generalize bs nm = s at *
  obtain ⟨n, hnn⟩ : ∃ n, n = ks.length := ⟨_, rfl⟩
  have HNN := Lib.hid hnn
  rw [← hnn]
  have hn3' : n ≤ 3 := by omega
  clear hnn
  obtain ⟨W1, hW1⟩ : ∃ W1, w.alloc (.cells #[.int .i64 op, .int .i64 pl, .string s, .int .i64 n0, .int .i64 d0, .bool uf, .int .i64 um, .int .i64 ua, .int .i64 ud, .slice xq n xc] 32) = W1 := ⟨_, rfl⟩
  have a1 := (Below.refl w.heap.size w).alloc (Nat.le_refl _) (.cells ([.int .i64 op, .int .i64 pl, .string s, .int .i64 n0, .int .i64 d0, .bool uf, .int .i64 um, .int .i64 ua, .int .i64 ud, .slice xq n xc] : List Value).toArray 32)
  have x1 : BoxL W1 w.heap.size [.int .i64 op, .int .i64 pl, .string s, .int .i64 n0, .int .i64 d0, .bool uf, .int .i64 um, .int .i64 ua, .int .i64 ud, .slice xq n xc] := by rw [← hW1]; exact box_new _ _ rfl
  replace a1 : RowKit.Below w.heap.size w W1 := hW1 ▸ a1
  have z1 : W1.heap.size = w.heap.size + 1 := by rw [← hW1]; simp
  obtain ⟨W2, hW2⟩ : ∃ W2, W1.alloc (.cells #[.bool false, .int .i64 0, .int .i64 0, .int .i64 0, .int .i64 0, .int .i64 0] 76) = W2 := ⟨_, rfl⟩
  have a2 := (Below.refl W1.heap.size W1).alloc (Nat.le_refl _) (.cells zGotL.toArray 76)
  have x2 : BoxL W2 (w.heap.size + 1) zGotL := by rw [← hW2]; exact box_new _ _ z1
  replace a2 : RowKit.Below W1.heap.size W1 W2 := hW2 ▸ a2
  have z2 : W2.heap.size = w.heap.size + 2 := by rw [← hW2]; simp; omega
  have X2 := Lib.hid (x1.bel (by simp) a2)
  have X4 := Lib.hid x2
  have BB := Lib.hid (a1.trans (a2.mono (by omega)))
  clear x1 x2 a1 a2
  obtain ⟨c0, c1, c2, c3, c4, c5, c6, c7, c8, c9⟩ := box10 X2.out
  by_cases h17 : op = 17
  ·subst h17
   have hks : ks = [] := List.length_eq_zero_iff.1 (by have : arity 17 = 0 := rfl; omega)
   have HR2 : Hid (R = .ok uFlag) := by
    show _ = _
    rw [HR.out, hks]
    rfl
   go_enter Try.func39, Try.ntmps39
   go_wp2_with fail
   clear hW1 hW2 c0 c1 c2 c3 c4 c5 c6 c7 c8 c9
   refine (rFlag_any _).mono ?_
   rintro _ V3 ⟨rfl, hb⟩
   replace BB := Lib.hid (BB.out.trans (hb.mono BB.out.size))
   replace X2 := Lib.hid (X2.out.bel (by simp) hb)
   replace X4 := Lib.hid (X4.out.bel (by simp [zGotL]) hb)
   clear hb
   go_wp2_with ((with_reducible show wpList _ _ _ ({ dst := none, op := Op.store _ (Operand.tmp 4) _, type := _, pos := _, after := _, guard := _ } :: _) _ _); (try clear hW1 hW2); refine wl_store rfl rfl rfl rfl (store_row 76 6 (by kernel_rfl) V3 (w.heap.size + 1) zGotL (g6 (.ok uFlag)) X4.out rfl rfl (by simp [Value.oneCell'])) ?_; simp only [Act.put]; replace X4 := Lib.hid (X4.out.cells (L := g6 (.ok uFlag)) rfl); have hk := kept_setCells (b := w.heap.size + 1) (w := V3) (g6 (.ok uFlag)) 0 V3 (Kept.refl _ _); replace BB := Lib.hid (below_kept BB.out hk (by omega)); clear hk; generalize V3.setCells (w.heap.size + 1) 0 (g6 (.ok uFlag)) = F9 at *; obtain ⟨r0, r1, r2, r3, r4, r5⟩ := box6 X4.out)
   exact bodyPost_ret (v := .agg (g6 (.ok uFlag)).toArray) (by simp [results, Try.results39, go_sem, r0, r1, r2, r3, r4, r5]) rfl ⟨by rw [show R = (.ok uFlag) from HR2.out], BB.out⟩
  by_cases h1 : op = 1
  ·subst h1
   have hbm1 := hbm rfl
   clear hbm
   cases uf with
   | true =>
    have HR2 : Hid (R = (.er 12 pl)) := by show _ = _; rw [HR.out, if_pos rfl, if_pos (Or.inl rfl)]
    go_enter Try.func39, Try.ntmps39
    go_wp2_with ((with_reducible show wpList _ _ _ ({ dst := none, op := Op.store _ (Operand.tmp 4) _, type := _, pos := _, after := _, guard := _ } :: _) _ _); (try clear hW1 hW2); refine wl_store rfl rfl rfl rfl (store_row 76 6 (by kernel_rfl) W2 (w.heap.size + 1) zGotL (g6 (.er 12 pl)) X4.out rfl rfl (by simp [Value.oneCell'])) ?_; simp only [Act.put]; replace X4 := Lib.hid (X4.out.cells (L := g6 (.er 12 pl)) rfl); have hk := kept_setCells (b := w.heap.size + 1) (w := W2) (g6 (.er 12 pl)) 0 W2 (Kept.refl _ _); replace BB := Lib.hid (below_kept BB.out hk (by omega)); clear hk; generalize W2.setCells (w.heap.size + 1) 0 (g6 (.er 12 pl)) = F9 at *; obtain ⟨r0, r1, r2, r3, r4, r5⟩ := box6 X4.out)
    exact bodyPost_ret (v := .agg (g6 (.er 12 pl)).toArray) (by simp [results, Try.results39, go_sem, r0, r1, r2, r3, r4, r5]) rfl ⟨by rw [show R = (.er 12 pl) from HR2.out], BB.out⟩
   | false =>
    rcases hbm1 with rfl | rfl
    ·have hz : ¬ (0 : Int) = 1 := by omega
     have HR2 : Hid (R = (.ok ⟨false, 0, ua, ud⟩)) := by show _ = _; rw [HR.out, if_pos rfl, if_neg (by simp)]
     go_enter Try.func39, Try.ntmps39
     go_wp2_with ((with_reducible show wpList _ _ _ ({ dst := none, op := Op.store _ (Operand.tmp 4) _, type := _, pos := _, after := _, guard := _ } :: _) _ _); (try clear hW1 hW2); refine wl_store rfl rfl rfl rfl (store_row 76 6 (by kernel_rfl) W2 (w.heap.size + 1) zGotL (g6 (.ok ⟨false, 0, ua, ud⟩)) X4.out rfl rfl (by simp [Value.oneCell'])) ?_; simp only [Act.put]; replace X4 := Lib.hid (X4.out.cells (L := g6 (.ok ⟨false, 0, ua, ud⟩)) rfl); have hk := kept_setCells (b := w.heap.size + 1) (w := W2) (g6 (.ok ⟨false, 0, ua, ud⟩)) 0 W2 (Kept.refl _ _); replace BB := Lib.hid (below_kept BB.out hk (by omega)); clear hk; generalize W2.setCells (w.heap.size + 1) 0 (g6 (.ok ⟨false, 0, ua, ud⟩)) = F9 at *; obtain ⟨r0, r1, r2, r3, r4, r5⟩ := box6 X4.out)
     exact bodyPost_ret (v := .agg (g6 (.ok ⟨false, 0, ua, ud⟩)).toArray) (by simp [results, Try.results39, go_sem, r0, r1, r2, r3, r4, r5]) rfl ⟨by rw [show R = (.ok ⟨false, 0, ua, ud⟩) from HR2.out], BB.out⟩
    ·by_cases hd : d0 = 1
     ·subst hd
      have HR2 : Hid (R = (.ok ⟨false, 1, ua, ud⟩)) := by show _ = _; rw [HR.out, if_pos rfl, if_neg (by simp)]
      go_enter Try.func39, Try.ntmps39
      go_wp2_with ((with_reducible show wpList _ _ _ ({ dst := none, op := Op.store _ (Operand.tmp 4) _, type := _, pos := _, after := _, guard := _ } :: _) _ _); (try clear hW1 hW2); refine wl_store rfl rfl rfl rfl (store_row 76 6 (by kernel_rfl) W2 (w.heap.size + 1) zGotL (g6 (.ok ⟨false, 1, ua, ud⟩)) X4.out rfl rfl (by simp [Value.oneCell'])) ?_; simp only [Act.put]; replace X4 := Lib.hid (X4.out.cells (L := g6 (.ok ⟨false, 1, ua, ud⟩)) rfl); have hk := kept_setCells (b := w.heap.size + 1) (w := W2) (g6 (.ok ⟨false, 1, ua, ud⟩)) 0 W2 (Kept.refl _ _); replace BB := Lib.hid (below_kept BB.out hk (by omega)); clear hk; generalize W2.setCells (w.heap.size + 1) 0 (g6 (.ok ⟨false, 1, ua, ud⟩)) = F9 at *; obtain ⟨r0, r1, r2, r3, r4, r5⟩ := box6 X4.out)
      exact bodyPost_ret (v := .agg (g6 (.ok ⟨false, 1, ua, ud⟩)).toArray) (by simp [results, Try.results39, go_sem, r0, r1, r2, r3, r4, r5]) rfl ⟨by rw [show R = (.ok ⟨false, 1, ua, ud⟩) from HR2.out], BB.out⟩
     ·have hdb : (d0 == 1) = false := beq_eq_false_iff_ne.2 hd
      have HR2 : Hid (R = (.er 12 pl)) := by show _ = _; rw [HR.out, if_pos rfl, if_pos (Or.inr ⟨by omega, hd⟩)]
      go_enter Try.func39, Try.ntmps39
      go_wp2_with ((with_reducible show wpList _ _ _ ({ dst := none, op := Op.store _ (Operand.tmp 4) _, type := _, pos := _, after := _, guard := _ } :: _) _ _); (try clear hW1 hW2); refine wl_store rfl rfl rfl rfl (store_row 76 6 (by kernel_rfl) W2 (w.heap.size + 1) zGotL (g6 (.er 12 pl)) X4.out rfl rfl (by simp [Value.oneCell'])) ?_; simp only [Act.put]; replace X4 := Lib.hid (X4.out.cells (L := g6 (.er 12 pl)) rfl); have hk := kept_setCells (b := w.heap.size + 1) (w := W2) (g6 (.er 12 pl)) 0 W2 (Kept.refl _ _); replace BB := Lib.hid (below_kept BB.out hk (by omega)); clear hk; generalize W2.setCells (w.heap.size + 1) 0 (g6 (.er 12 pl)) = F9 at *; obtain ⟨r0, r1, r2, r3, r4, r5⟩ := box6 X4.out)
      exact bodyPost_ret (v := .agg (g6 (.er 12 pl)).toArray) (by simp [results, Try.results39, go_sem, r0, r1, r2, r3, r4, r5]) rfl ⟨by rw [show R = (.er 12 pl) from HR2.out], BB.out⟩
  by_cases h2 : op = 2
  ·subst h2
   clear hbm h1 h17
   have HR2 : Hid (R = match Un.look (Un.facts L) nm with | some u => .ok u | none => .er 11 pl) := by show _ = _; rw [HR.out]; rfl
   clear HR
   go_enter Try.func39, Try.ntmps39
   go_wp2_with fail
   clear hW1 hW2 z1 c0 c1 c2 c3 c4 c5 c6 c7 c8 c9
   go_loopg [5] L.length (fun g v5 wr => ∃ i : Nat, i ≤ L.length ∧ L.length - i ≤ g ∧ v5 = .int .i64 i ∧ Hid (Un.look (Un.facts L) nm = Un.look (Un.facts (L.drop i)) nm) ∧ Hid (RowKit.Below w.heap.size w wr) ∧ Hid (BoxL wr w.heap.size [.int .i64 2, .int .i64 pl, .string s, .int .i64 n0, .int .i64 d0, .bool uf, .int .i64 um, .int .i64 ua, .int .i64 ud, .slice xq n xc]) ∧ Hid (BoxL wr (w.heap.size + 1) zGotL))
   case atStart => exact ⟨0, Nat.zero_le _, by omega, by simp, rfl, BB, X2, X4⟩
   clear BB X2 X4 z2
   case round =>
    obtain ⟨i, hi, hg, rfl, HM, BB, X2, X4⟩ := hrel
    by_cases hlt : i < L.length
    ·have hz : (i : Int) < (L.length : Int) := by omega
     have hq := (KS.out _ BB.out).ptr (by omega)
     subst hq
     have E3 := Lib.hid (HM.out.trans (look_drop L nm i hlt))
     have e0 := HNM.out i hlt
     have HA : Hid (∀ V, RowKit.Below w.heap.size w V → ∀ j v, (dC L[i])[j]? = some v → V.cell? ⟨b, off + i * 8 + j, none⟩ = some v) := fun V hV => ((KS.out V hV).at_ i _ (by rw [List.getElem?_map, List.getElem?_eq_getElem hlt]; rfl)).2
     clear HM
     have e2 : IntKind.i64.wrap ((i : Int) + 1) = ((i + 1 : Nat) : Int) := by rw [IntWalk.i64_in _ (by omega)]; rfl
     generalize L[i] = dd at *
     obtain ⟨ds, du, dlo, dhi, dpl⟩ := dd
     simp only at e0 E3
     go_wp2_with fail
     have hb := (Below.refl wr.heap.size wr).drew
     replace BB := Lib.hid (BB.out.trans (hb.mono BB.out.size))
     replace X2 := Lib.hid (X2.out.bel (by simp) hb)
     replace X4 := Lib.hid (X4.out.bel (by simp [zGotL]) hb)
     have hS : Hid (∀ j v, (dC ⟨ds, du, dlo, dhi, dpl⟩)[j]? = some v → wr.drew.cell? ⟨b, off + i * 8 + j, none⟩ = some v) ∧ Hid (BoxL wr.drew w.heap.size [.int .i64 2, .int .i64 pl, .string s, .int .i64 n0, .int .i64 d0, .bool uf, .int .i64 um, .int .i64 ua, .int .i64 ud, .slice xq n xc]) := ⟨HA.out _ BB.out, X2⟩
     refine wp_region_held (S := fun w' : World => Hid (∀ j v, (dC ⟨ds, du, dlo, dhi, dpl⟩)[j]? = some v → w'.cell? ⟨b, off + i * 8 + j, none⟩ = some v) ∧ Hid (BoxL w' w.heap.size [.int .i64 2, .int .i64 pl, .string s, .int .i64 n0, .int .i64 d0, .bool uf, .int .i64 um, .int .i64 ua, .int .i64 ud, .slice xq n xc])) mixed ?_
     change wpAnyH _ _ _ _ _ _ _ _ wr.drew
     clear hb
     generalize wr.drew = U1 at *
     refine tk0 (v := ?_) (by kernel_rfl) (by kernel_rfl) (by kernel_rfl) (fun _ _ _ h => h) (Or.inl ⟨by first | rfl | (simp [Region.wanted, yielded]; done), ?_⟩) hS ?_
     rotate_left
     ·intro w' hSw; have s0 := hSw.1.out 0 _ rfl; rw [Nat.add_zero] at s0; have s1 := (hSw.2.out 2 _ rfl).1; clear hSw; go_simp; try with_reducible rfl
     simp only [Act.put, zA, zB, zC]
     refine tk1 (v := ?_) (by kernel_rfl) (by kernel_rfl) (by kernel_rfl) (fun _ _ _ h => h) (Or.inl ⟨by first | rfl | (simp [Region.wanted, yielded]; done), ?_⟩) hS ?_
     rotate_left
     ·intro w' hSw; have s0 := hSw.1.out 0 _ rfl; rw [Nat.add_zero] at s0; have s1 := (hSw.2.out 2 _ rfl).1; clear hSw; go_simp; try with_reducible rfl
     simp only [Act.put, zA, zB, zC]
     refine tk2 (v := ?_) (by kernel_rfl) (by kernel_rfl) (by kernel_rfl) (fun _ _ _ h => h) (Or.inl ⟨by first | rfl | (simp [Region.wanted, yielded]; done), ?_⟩) hS ?_
     rotate_left
     ·intro w' hSw; have s0 := hSw.1.out 0 _ rfl; rw [Nat.add_zero] at s0; have s1 := (hSw.2.out 2 _ rfl).1; clear hSw; go_simp; try with_reducible rfl
     simp only [Act.put, zA, zB, zC]
     refine tk3 (v := ?_) (by kernel_rfl) (by kernel_rfl) (by kernel_rfl) (fun _ _ _ h => h) (Or.inl ⟨by first | rfl | (simp [Region.wanted, yielded]; done), ?_⟩) hS ?_
     rotate_left
     ·intro w' hSw; have s0 := hSw.1.out 0 _ rfl; rw [Nat.add_zero] at s0; have s1 := (hSw.2.out 2 _ rfl).1; clear hSw; go_simp; try with_reducible rfl
     simp only [Act.put, zA, zB, zC]
     refine tk4 (v := ?_) (by kernel_rfl) (by kernel_rfl) (by kernel_rfl) (fun _ _ _ h => h) (Or.inl ⟨by first | rfl | (simp [Region.wanted, yielded]; done), ?_⟩) hS ?_
     rotate_left
     ·intro w' hSw; have s0 := hSw.1.out 0 _ rfl; rw [Nat.add_zero] at s0; have s1 := (hSw.2.out 2 _ rfl).1; clear hSw; go_simp; try with_reducible rfl
     simp only [Act.put, zA, zB, zC]
     refine tk5 (v := ?_) (by kernel_rfl) (by kernel_rfl) (by kernel_rfl) (fun _ _ _ h => h) (Or.inl ⟨by first | rfl | (simp [Region.wanted, yielded]; done), ?_⟩) hS ?_
     rotate_left
     ·intro w' hSw; have s0 := hSw.1.out 0 _ rfl; rw [Nat.add_zero] at s0; have s1 := (hSw.2.out 2 _ rfl).1; clear hSw; go_simp; try with_reducible rfl
     simp only [Act.put, zA, zB, zC]
     refine tk6 (v := ?_) (by kernel_rfl) (by kernel_rfl) (by kernel_rfl) (fun _ _ _ h => h) (Or.inl ⟨by first | rfl | (simp [Region.wanted, yielded]; done), ?_⟩) hS ?_
     rotate_left
     ·intro w' hSw; have s0 := hSw.1.out 0 _ rfl; rw [Nat.add_zero] at s0; have s1 := (hSw.2.out 2 _ rfl).1; clear hSw; go_simp; try with_reducible rfl
     simp only [Act.put, zA, zB, zC]
     refine tk7 (v := .bool (ds == nm)) (by kernel_rfl) (by kernel_rfl) (by kernel_rfl) (fun _ _ _ h => h) (Or.inl ⟨by first | rfl | (simp [Region.wanted, yielded]; done), ?_⟩) hS ?_
     ·intro w' hSw
      clear hSw; go_simp; first | done | rw [e0] | simp [e0] | trace_state
     simp only [Act.put, zA, zB, zC]
     refine wpAnyH_done (by kernel_rfl) ?_ _
     clear hS
     generalize (ds == nm) = q at *
     cases q with
     | true =>
      have HR3 : Hid (R = .ok du) := by show _ = _; rw [HR2.out, E3.out]; rfl
      go_wp2_with (first | ((with_reducible show wpList _ _ _ ({ dst := some 61, op := _, type := _, pos := _, after := _, guard := _ } :: _) _ _); refine wl_loadP rfl rfl rfl (load_rowAt 29 4 (by kernel_rfl) (by kernel_rfl) _ _ _ (uC du) rfl (fun j v hv => by have := HA.out _ BB.out (1 + j) v (dC_u ⟨ds, du, dlo, dhi, dpl⟩ j v hv); rwa [← Nat.add_assoc] at this)) ?_; simp only [Act.put, zA, zB, zC]) | ((with_reducible show wpList _ _ _ ({ dst := some 62, op := _, type := _, pos := _, after := _, guard := _ } :: _) _ _); refine wl_build rfl rfl (build_got du _) ?_; simp only [Act.put, zA, zB, zC]) | ((with_reducible show wpList _ _ _ ({ dst := none, op := Op.store _ (Operand.tmp 4) _, type := _, pos := _, after := _, guard := _ } :: _) _ _); (try clear hW1 hW2); refine wl_store rfl rfl rfl rfl (store_row 76 6 (by kernel_rfl) U1 (w.heap.size + 1) zGotL (g6 (.ok du)) X4.out rfl rfl (by simp [Value.oneCell'])) ?_; simp only [Act.put]; replace X4 := Lib.hid (X4.out.cells (L := g6 (.ok du)) rfl); have hk := kept_setCells (b := w.heap.size + 1) (w := U1) (g6 (.ok du)) 0 U1 (Kept.refl _ _); replace BB := Lib.hid (below_kept BB.out hk (by omega)); clear hk; generalize U1.setCells (w.heap.size + 1) 0 (g6 (.ok du)) = F9 at *; obtain ⟨r0, r1, r2, r3, r4, r5⟩ := box6 X4.out))
      exact bodyPost_ret (v := .agg (g6 (.ok du)).toArray) (by simp [results, Try.results39, go_sem, r0, r1, r2, r3, r4, r5]) rfl ⟨by rw [show R = (.ok du) from HR3.out], BB.out⟩
     | false =>
      have E4 : Hid (Un.look (Un.facts L) nm = Un.look (Un.facts (L.drop (i + 1))) nm) := by show _ = _; rw [E3.out]; rfl
      go_wp2_with fail
      all_goals
       go_roundg (L.length - (i + 1))
       case measure => omega
       case rel => exact ⟨i + 1, by omega, Nat.le_refl _, by simp, E4, BB, X2, X4⟩
    ·have hz : ¬ (i : Int) < (L.length : Int) := by omega
     have hie : i = L.length := by omega
     have HR3 : Hid (R = .er 11 pl) := by
      show _ = _
      rw [HR2.out, HM.out, hie, List.drop_length]
      rfl
     clear hie HM
     obtain ⟨c1, -⟩ := X2.out 1 _ rfl
     go_wp2_with ((with_reducible show wpList _ _ _ ({ dst := none, op := Op.store _ (Operand.tmp 4) _, type := _, pos := _, after := _, guard := _ } :: _) _ _); (try clear hW1 hW2); refine wl_store rfl rfl rfl rfl (store_row 76 6 (by kernel_rfl) wr (w.heap.size + 1) zGotL (g6 (.er 11 pl)) X4.out rfl rfl (by simp [Value.oneCell'])) ?_; simp only [Act.put]; replace X4 := Lib.hid (X4.out.cells (L := g6 (.er 11 pl)) rfl); have hk := kept_setCells (b := w.heap.size + 1) (w := wr) (g6 (.er 11 pl)) 0 wr (Kept.refl _ _); replace BB := Lib.hid (below_kept BB.out hk (by omega)); clear hk; generalize wr.setCells (w.heap.size + 1) 0 (g6 (.er 11 pl)) = F9 at *; obtain ⟨r0, r1, r2, r3, r4, r5⟩ := box6 X4.out)
     exact bodyPost_ret (v := .agg (g6 (.er 11 pl)).toArray) (by simp [results, Try.results39, go_sem, r0, r1, r2, r3, r4, r5]) rfl ⟨by rw [show R = (.er 11 pl) from HR3.out], BB.out⟩
  have HR2 : Hid (R = match fnds (Un.facts L) ks with | .inl (e, p) => .er e p | .inr us => match opU op us with | some u => .ok u | none => .er 12 pl) := by show _ = _; rw [HR.out, if_neg h1, if_neg h2]
  have hb17 : (op == 17) = false := beq_eq_false_iff_ne.2 h17
  have hb1 : (op == 1) = false := beq_eq_false_iff_ne.2 h1
  have hb2 : (op == 2) = false := beq_eq_false_iff_ne.2 h2
  clear HR hbm
  go_enter Try.func39, Try.ntmps39
  go_wp2_with fail
  clear hW1 hW2 z1 c0 c1 c2 c3 c4 c5 c6 c7 c8 c9 hb17 hb1 hb2
  go_loopg [7, 6] n (fun g v7 v6 wr => ∃ (i : Nat) (q : Option Addr) (cq : Nat) (us : List U), i ≤ n ∧ n - i ≤ g ∧ v7 = .int .i64 i ∧ v6 = .slice q i cq ∧ Hid (us.length = i ∧ fnds (Un.facts L) (ks.take i) = .inr us) ∧ Hid (wr.ownsRow (w.heap.size + 2) 29 4 (.slice q i cq) i (us.map uC).flatten) ∧ Hid (RowKit.Below w.heap.size w wr) ∧ Hid (BoxL wr w.heap.size [.int .i64 op, .int .i64 pl, .string s, .int .i64 n0, .int .i64 d0, .bool uf, .int .i64 um, .int .i64 ua, .int .i64 ud, .slice xq n xc]) ∧ Hid (BoxL wr (w.heap.size + 1) zGotL) ∧ w.heap.size + 2 ≤ wr.heap.size)
  case atStart => exact ⟨0, none, 0, [], Nat.zero_le _, by omega, by simp, rfl, ⟨rfl, by simp [fnds]⟩, World.ownsRow_nil _ _ _ _, BB, X2, X4, by omega⟩
  clear BB X2 X4 z2
  case round =>
   obtain ⟨i, q, cq, us, hi, hg, rfl, rfl, HU, OW, BB, X2, X4, hsz⟩ := hrel
   obtain ⟨c9, -⟩ := X2.out 9 _ rfl
   by_cases hlt : i < n
   ·have hz : (i : Int) < (n : Int) := by omega
    have hik : i < ks.length := by rw [← HNN.out]; exact hlt
    have hq := HQ.out (by omega)
    subst hq
    obtain ⟨li, hli, hki⟩ := KI.out i hik
    have KC := Lib.hid hki
    clear hki
    have HT : Hid (ks.take (i + 1) = ks.take i ++ [ks[i]]) := (List.take_append_getElem hik).symm
    have HKK : Hid (ks = ks.take i ++ ks[i] :: ks.drop (i + 1)) := by show _ = _; rw [← List.drop_eq_getElem_cons hik, List.take_append_drop]
    have e2 : IntKind.i64.wrap ((i : Int) + 1) = ((i + 1 : Nat) : Int) := by rw [IntWalk.i64_in _ (by omega)]; rfl
    go_wp2_with ((with_reducible show wpList _ _ _ ({ dst := some 78, op := _, type := _, pos := _, after := _, guard := _ } :: _) _ _); refine wl_loadP rfl rfl rfl (load_rowAt 32 10 (by kernel_rfl) (by kernel_rfl) _ _ _ li hli ((KC.out _ BB.out).1)) ?_; simp only [Act.put, zA, zB, zC])
    refine ((KC.out _ BB.out).2).mono ?_
    rintro _ V5 ⟨rfl, hb⟩
    clear c9
    have HE : Hid (∀ e q, fnd (Un.facts L) ks[i] = .er e q → e ≠ 0) := fun e q h => by rcases fnd_ne _ _ _ h with h | h <;> omega
    have hsz0 := hb.size
    replace OW := Lib.hid (own_heap OW.out (fun j _ hj => hb.block j hj))
    replace BB := Lib.hid (BB.out.trans (hb.mono BB.out.size))
    replace X2 := Lib.hid (X2.out.bel (by simp) hb)
    replace X4 := Lib.hid (X4.out.bel (by simp [zGotL]) hb)
    clear hb
    replace hsz := Nat.le_trans hsz hsz0
    clear hsz0
    have HFK : Hid (∀ gg, gg = fnd (Un.facts L) ks[i] → gg = fnd (Un.facts L) ks[i]) := fun _ h => h
    obtain ⟨gk, hgk⟩ : ∃ gk, gk = fnd (Un.facts L) ks[i] := ⟨_, rfl⟩
    rw [← hgk] at HE ⊢
    have HGK := Lib.hid hgk
    clear hgk HFK
    cases gk with
    | er E qe =>
     have hE := HE.out E qe rfl
     have hEb : (E == 0) = false := beq_eq_false_iff_ne.2 hE
     have HR3 : Hid (R = .er E qe) := by
      show _ = _
      have h5 : fnds (Un.facts L) (ks.take i ++ [ks[i]]) = .inl (E, qe) := by rw [fnds_snoc, HU.out.2, ← HGK.out]
      have h6 := fnds_er_app (ks.take i ++ [ks[i]]) (ks.drop (i + 1)) h5
      rw [List.append_assoc, List.singleton_append, ← HKK.out] at h6
      rw [HR2.out, h6]
     clear HE HGK HKK HT
     obtain ⟨b8, hb8⟩ : ∃ b, b = V5.heap.size := ⟨_, rfl⟩
     go_wp2_with (first | ((with_reducible show wpList _ _ _ ({ dst := some 8, op := _, type := _, pos := _, after := _, guard := _ } :: _) _ _); refine wl_gbox (L := g6 (.er E qe)) rfl rfl rfl rfl rfl (by simp [Value.oneCell']) rfl rfl ?_; intro V6 hb hs hx; have hsz0 := hb.size; replace OW := Lib.hid (own_heap OW.out (fun j _ hj => hb.block j hj)); replace BB := Lib.hid (BB.out.trans (hb.mono BB.out.size)); replace X2 := Lib.hid (X2.out.bel (by simp) hb); replace X4 := Lib.hid (X4.out.bel (by simp [zGotL]) hb); replace hsz := Nat.le_trans hsz hsz0; have X8 := Lib.hid hx; clear hb hx hs hsz0; simp only [Act.put, zA, zB, zC]; rw [← hb8] at X8 ⊢; clear hb8; have k4 : V6.cell? ⟨b8, 4, none⟩ = some (.int .i64 E) := (X8.out 4 _ rfl).1) | ((with_reducible show wpList _ _ _ ({ dst := some 83, op := _, type := _, pos := _, after := _, guard := _ } :: _) _ _); refine wl_loadP rfl rfl rfl (load_row 76 6 (by kernel_rfl) (by kernel_rfl) _ _ (g6 (.er E qe)) rfl (fun j v hv => (X8.out j v hv).1)) ?_; simp only [Act.put, zA, zB, zC]) | ((with_reducible show wpList _ _ _ ({ dst := none, op := Op.store _ (Operand.tmp 4) _, type := _, pos := _, after := _, guard := _ } :: _) _ _); (try clear hW1 hW2); refine wl_store rfl rfl rfl rfl (store_row 76 6 (by kernel_rfl) V6 (w.heap.size + 1) zGotL (g6 (.er E qe)) X4.out rfl rfl (by simp [Value.oneCell'])) ?_; simp only [Act.put]; replace X4 := Lib.hid (X4.out.cells (L := g6 (.er E qe)) rfl); have hk := kept_setCells (b := w.heap.size + 1) (w := V6) (g6 (.er E qe)) 0 V6 (Kept.refl _ _); replace BB := Lib.hid (below_kept BB.out hk (by omega)); clear hk; generalize V6.setCells (w.heap.size + 1) 0 (g6 (.er E qe)) = F9 at *; obtain ⟨r0, r1, r2, r3, r4, r5⟩ := box6 X4.out))
     exact bodyPost_ret (v := .agg (g6 (.er E qe)).toArray) (by simp [results, Try.results39, go_sem, r0, r1, r2, r3, r4, r5]) rfl ⟨by rw [show R = (.er E qe) from HR3.out], BB.out⟩
    | ok u =>
     have HU2 : Hid ((us ++ [u]).length = i + 1 ∧ fnds (Un.facts L) (ks.take (i + 1)) = .inr (us ++ [u])) := ⟨by rw [List.length_append, HU.out.1]; rfl, by rw [HT.out, fnds_snoc, HU.out.2, ← HGK.out]⟩
     clear HE HGK HKK HT HU
     obtain ⟨b8, hb8⟩ : ∃ b, b = V5.heap.size := ⟨_, rfl⟩
     go_wp2_with (first | ((with_reducible show wpList _ _ _ ({ dst := some 8, op := _, type := _, pos := _, after := _, guard := _ } :: _) _ _); refine wl_gbox (L := g6 (.ok u)) rfl rfl rfl rfl rfl (by simp [Value.oneCell']) rfl rfl ?_; intro V6 hb hs hx; have hsz0 := hb.size; replace OW := Lib.hid (own_heap OW.out (fun j _ hj => hb.block j hj)); replace BB := Lib.hid (BB.out.trans (hb.mono BB.out.size)); replace X2 := Lib.hid (X2.out.bel (by simp) hb); replace X4 := Lib.hid (X4.out.bel (by simp [zGotL]) hb); replace hsz := Nat.le_trans hsz hsz0; have X8 := Lib.hid hx; clear hb hx hs hsz0; simp only [Act.put, zA, zB, zC]; rw [← hb8] at X8 ⊢; clear hb8; have k4 : V6.cell? ⟨b8, 4, none⟩ = some (.int .i64 0) := (X8.out 4 _ rfl).1) | ((with_reducible show wpList _ _ _ ({ dst := some 86, op := _, type := _, pos := _, after := _, guard := _ } :: _) _ _); refine wl_loadP rfl rfl rfl (load_row 29 4 (by kernel_rfl) (by kernel_rfl) _ _ (uC u) rfl (fun j v hv => (X8.out j v (g6_u (.ok u) j v hv)).1)) ?_; simp only [Act.put, zA, zB, zC]) | ((with_reducible show wpList _ _ _ ({ dst := some 87, op := _, type := _, pos := _, after := _, guard := _ } :: _) _ _); refine wl_sliceP rfl rfl rfl (slice_unitL u V6) ?_; have hb := (Below.refl V6.heap.size V6).alloc (Nat.le_refl _) (.cells (uC u).toArray 29); have D := BoxL.new V6 (uC u) 29; have hsz0 := hb.size; replace OW := Lib.hid (own_heap OW.out (fun j _ hj => hb.block j hj)); replace BB := Lib.hid (BB.out.trans (hb.mono BB.out.size)); replace X2 := Lib.hid (X2.out.bel (by simp) hb); replace X4 := Lib.hid (X4.out.bel (by simp [zGotL]) hb); replace hsz := Nat.le_trans hsz hsz0; obtain ⟨v2, V8, hrun, hown, hgr, hob⟩ := run_app1 88 29 4 Try.underlying88 info_Un (by omega) _ (w.heap.size + 2) 88 (.slice q i cq) i (us.map uC).flatten OW.out V6.heap.size (uC u) rfl (fun j x hx => (D j x hx).1) (by simp [uC, Value.oneCell']) (by omega) hsz; obtain ⟨q', cq', rfl⟩ := own_slice hown; clear hb D hsz0 k4; simp only [Act.put, zA, zB, zC]) | ((with_reducible show wpList _ _ _ ({ dst := some 88, op := _, type := _, pos := _, after := _, guard := _ } :: _) _ _); refine wl_app _ _ rfl rfl rfl rfl hrun ?_; simp only [Act.put, zA, zB, zC]; have hne : ∀ j, j < w.heap.size + 2 → some j ≠ (Value.slice q i cq).ownBlock := fun j hj e => (by have := (OW.out.lt j e.symm).1; omega); replace BB := Lib.hid (below_grown BB.out hgr (fun j e => (by have := (OW.out.lt j e).1; omega))); replace X2 := Lib.hid (X2.out.of (hgr.block _ (X2.out.lt (by simp)) (hne _ (by omega)))); replace X4 := Lib.hid (X4.out.of (hgr.block _ (X4.out.lt (by simp [zGotL])) (hne _ (by omega)))); replace hsz := Nat.le_trans hsz hgr.size; clear hne hgr hob hrun OW X8; rw [show (us.map uC).flatten ++ uC u = ((us ++ [u]).map uC).flatten by simp] at hown; have OW := Lib.hid hown; clear hown))
     all_goals
      go_roundg (n - (i + 1))
      case measure => omega
      case rel => exact ⟨i + 1, q', cq', us ++ [u], by omega, Nat.le_refl _, by simp, rfl, HU2, OW, BB, X2, X4, hsz⟩
   ·have hz : ¬ (i : Int) < (n : Int) := by omega
    have hie : i = ks.length := by rw [← HNN.out]; omega
    have hU2 := HU.out.2
    rw [hie, List.take_length] at hU2
    have HR3 : Hid (R = match opU op us with | some u => .ok u | none => .er 12 pl) := by show _ = _; rw [HR2.out, hU2]
    have hul := HU.out.1
    obtain ⟨p2, b2, cap2, e, hs2⟩ := own_slr (rows := us.map uC) (by rw [List.length_map, hul]; exact OW.out) (fun r hr => by obtain ⟨z, -, rfl⟩ := List.mem_map.1 hr; rfl)
    injection e with e1 e2 e3
    subst e1 e3
    rw [List.length_map] at hs2
    have KO : Hid (∀ V, RowKit.Below wr.heap.size wr V → Calls Try.prog 57 #[.int .i64 op, .slice q i cq] V fun e w' => OpR (opU op us) e ∧ RowKit.Below V.heap.size V w') := fun V hV => by
     have := roperator_any op us (by rw [hul, hie]; exact har) h1 h2 h17 (HGS.out us hU2) V q b2 0 cq (hs2.bel hV)
     rw [hul] at this
     exact this
    clear hU2 hs2 e2 HU OW hie hul
    obtain ⟨c0, -⟩ := X2.out 0 _ rfl
    go_wp2_with fail
    refine (KO.out _ (Below.refl _ _)).mono ?_
    rintro _ V5 ⟨⟨u, bb, rfl, hbb, huu⟩, hb⟩
    clear c9 c0 KO
    replace BB := Lib.hid (BB.out.trans (hb.mono BB.out.size))
    replace X2 := Lib.hid (X2.out.bel (by simp) hb)
    replace X4 := Lib.hid (X4.out.bel (by simp [zGotL]) hb)
    clear hb
    have HBB := Lib.hid hbb
    have HUU := Lib.hid huu
    clear hbb huu
    obtain ⟨b9, hb9⟩ : ∃ b, b = V5.heap.size := ⟨_, rfl⟩
    cases bb with
    | false =>
     have HR4 : Hid (R = .er 12 pl) := by
      show _ = _
      rw [HR3.out]
      have := HBB.out
      cases ho : opU op us with
      | none => rfl
      | some v => rw [ho] at this; cases this
     go_wp2_with (first | ((with_reducible show wpList _ _ _ ({ dst := some 9, op := _, type := _, pos := _, after := _, guard := _ } :: _) _ _); refine wl_ubox (L := uC u) rfl rfl rfl rfl rfl (by simp [uC, Value.oneCell']) rfl rfl ?_; intro V6 hb hs hx; replace BB := Lib.hid (BB.out.trans (hb.mono BB.out.size)); replace X2 := Lib.hid (X2.out.bel (by simp) hb); replace X4 := Lib.hid (X4.out.bel (by simp [zGotL]) hb); have X9 := Lib.hid hx; clear hb hx hs; simp only [Act.put, zA, zB, zC]; rw [← hb9] at X9 ⊢; clear hb9; obtain ⟨c1, -⟩ := X2.out 1 _ rfl) | ((with_reducible show wpList _ _ _ ({ dst := none, op := Op.store _ (Operand.tmp 4) _, type := _, pos := _, after := _, guard := _ } :: _) _ _); (try clear hW1 hW2); refine wl_store rfl rfl rfl rfl (store_row 76 6 (by kernel_rfl) V6 (w.heap.size + 1) zGotL (g6 (.er 12 pl)) X4.out rfl rfl (by simp [Value.oneCell'])) ?_; simp only [Act.put]; replace X4 := Lib.hid (X4.out.cells (L := g6 (.er 12 pl)) rfl); have hk := kept_setCells (b := w.heap.size + 1) (w := V6) (g6 (.er 12 pl)) 0 V6 (Kept.refl _ _); replace BB := Lib.hid (below_kept BB.out hk (by omega)); clear hk; generalize V6.setCells (w.heap.size + 1) 0 (g6 (.er 12 pl)) = F9 at *; obtain ⟨r0, r1, r2, r3, r4, r5⟩ := box6 X4.out))
     exact bodyPost_ret (v := .agg (g6 (.er 12 pl)).toArray) (by simp [results, Try.results39, go_sem, r0, r1, r2, r3, r4, r5]) rfl ⟨by rw [show R = (.er 12 pl) from HR4.out], BB.out⟩
    | true =>
     have HR4 : Hid (R = .ok u) := by
      show _ = _
      rw [HR3.out]
      have h5 := HBB.out
      have h6 := HUU.out
      cases ho : opU op us with
      | none => rw [ho] at h5; cases h5
      | some v => rw [h6 v ho]
     go_wp2_with (first | ((with_reducible show wpList _ _ _ ({ dst := some 9, op := _, type := _, pos := _, after := _, guard := _ } :: _) _ _); refine wl_ubox (L := uC u) rfl rfl rfl rfl rfl (by simp [uC, Value.oneCell']) rfl rfl ?_; intro V6 hb hs hx; replace BB := Lib.hid (BB.out.trans (hb.mono BB.out.size)); replace X2 := Lib.hid (X2.out.bel (by simp) hb); replace X4 := Lib.hid (X4.out.bel (by simp [zGotL]) hb); have X9 := Lib.hid hx; clear hb hx hs; simp only [Act.put, zA, zB, zC]; rw [← hb9] at X9 ⊢; clear hb9; obtain ⟨c1, -⟩ := X2.out 1 _ rfl) | ((with_reducible show wpList _ _ _ ({ dst := some 101, op := _, type := _, pos := _, after := _, guard := _ } :: _) _ _); refine wl_loadP rfl rfl rfl (load_row 29 4 (by kernel_rfl) (by kernel_rfl) _ _ (uC u) rfl (fun j v hv => (X9.out j v hv).1)) ?_; simp only [Act.put, zA, zB, zC]) | ((with_reducible show wpList _ _ _ ({ dst := some 102, op := _, type := _, pos := _, after := _, guard := _ } :: _) _ _); refine wl_build rfl rfl (build_got u _) ?_; simp only [Act.put, zA, zB, zC]) | ((with_reducible show wpList _ _ _ ({ dst := none, op := Op.store _ (Operand.tmp 4) _, type := _, pos := _, after := _, guard := _ } :: _) _ _); (try clear hW1 hW2); refine wl_store rfl rfl rfl rfl (store_row 76 6 (by kernel_rfl) V6 (w.heap.size + 1) zGotL (g6 (.ok u)) X4.out rfl rfl (by simp [Value.oneCell'])) ?_; simp only [Act.put]; replace X4 := Lib.hid (X4.out.cells (L := g6 (.ok u)) rfl); have hk := kept_setCells (b := w.heap.size + 1) (w := V6) (g6 (.ok u)) 0 V6 (Kept.refl _ _); replace BB := Lib.hid (below_kept BB.out hk (by omega)); clear hk; generalize V6.setCells (w.heap.size + 1) 0 (g6 (.ok u)) = F9 at *; obtain ⟨r0, r1, r2, r3, r4, r5⟩ := box6 X4.out))
     exact bodyPost_ret (v := .agg (g6 (.ok u)).toArray) (by simp [results, Try.results39, go_sem, r0, r1, r2, r3, r4, r5]) rfl ⟨by rw [show R = (.ok u) from HR4.out], BB.out⟩
end Go.Proofs.Ytoaonficdkgfiaa
namespace Go.Proofs.Ytoaonficdkgfiaa
open Go.RowKit Un

/-- What rule of the reference gives: a place and what is wrong there (0: nothing). -/
def ruleR (fs : List (List UInt8 × U)) (prev : List Ru) (r : Ru) : Int × Int :=
 if headR prev r ≠ 0 then (r.pl, headR prev r)
 else if gE (fnd fs r.whn) ≠ 0 then (gP (fnd fs r.whn), gE (fnd fs r.whn))
 else if (gU (fnd fs r.whn)).f = false then (r.whn.pl, 12)
 else if gE (fnd fs r.giv) ≠ 0 then (gP (fnd fs r.giv), gE (fnd fs r.giv))
 else (r.giv.pl, giveR r (gU (fnd fs r.giv)))
theorem ruleR_eq {fs : List (List UInt8 × U)} {prev : List Ru} {r : Ru} (hk : 1 ≤ r.kind ∧ r.kind ≤ 7) (hne : ∀ t e p, fnd fs t = .er e p → e ≠ 0) : (if (ruleR fs prev r).2 = 0 then ([] : List (Int × Int)) else [ruleR fs prev r]) = if (errR fs prev r).2 = 0 then [] else [errR fs prev r] := by
 unfold ruleR errR
 by_cases h0 : headR prev r = 0
 ·cases hw : fnd fs r.whn with
  | er e p => simp [gE, gP, hne _ _ _ hw, h0]
  | ok u =>
   by_cases hf : u.f = false
   ·simp [gE, gU, hf, h0]
   ·cases hg : fnd fs r.giv with
    | er e p => simp [gE, gU, gP, hne _ _ _ hg, hf, h0]
    | ok v =>
     have e := giveR_eq hk hg
     simp only [gE, gU, hf, e]
     by_cases hz : giveE r v = 0 <;> simp [hz, h0]
 ·simp [h0]
end Go.Proofs.Ytoaonficdkgfiaa
