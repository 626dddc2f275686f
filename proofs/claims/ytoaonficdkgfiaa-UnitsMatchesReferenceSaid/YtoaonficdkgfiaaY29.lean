/- Texts on units: RHdg -/
import Derived.Test.YtoaonficdkgfiaaY28
import Derived.Test.YtoaonficdkgfiaaY25
namespace Go.Proofs.Ytoaonficdkgfiaa
open Go.RowKit Un MapKept

theorem before_snoc (pre : List Ru) (v r : Ru) : before (pre ++ [v]) r = before pre r ++ (if v.nm == r.nm then [v] else []) := by
 unfold before
 rw [List.filter_append]
 cases h : v.nm == r.nm <;> simp [h]
def othR (v r : Ru) : Bool := v.kind != r.kind || !(v.act == r.act)
theorem wrap_ver {v r : Int} (hv : in64 v) (hr : 1 ≤ r ∧ r ≤ 999) (h : ¬ v = r - 1) : ¬ IntKind.i64.wrap (v + 1) = r := by
 unfold in64 at hv
 by_cases hm : v + 1 ≤ 9223372036854775807
 ·rw [IntWalk.i64_in _ (by omega)]; omega
 ·have : v + 1 = 9223372036854775808 := by omega
  rw [this]
  have e : IntKind.i64.wrap 9223372036854775808 = -9223372036854775808 := by decide
  rw [e]; omega
set_option maxRecDepth 100000 in
set_option maxHeartbeats 12000000 in
theorem rheading_any (rs : List Ru) (hv : ∀ r ∈ rs, in64 r.ver) (rows : List (List Value)) (p : Option Addr) (br orr c : Nat) (i : Nat) (hi : i < rs.length) (w : World) (hR : RsC w p br orr rs rows) :
  Calls Try.prog 66 #[.slice p rs.length c, .int .i64 (i : Nat)] w fun e w' => e = .returned (.int .i64 (headR (before (rs.take i) rs[i]) rs[i])) ∧ RowKit.Below w.heap.size w w' := by
 have hmax := hR.sl.max
 have hln := hR.sl.ln
 have hq := hR.sl.ptr (by omega)
 subst hq
 obtain ⟨x, y, hri⟩ := hR.ru i hi (by omega)
 have KO : Hid (∀ (k : Nat) (h : k < rs.length), ∀ V, RowKit.Below w.heap.size w V → V.cell? ⟨br, orr + k * 28, none⟩ = some (.string (bs rs[k].nm)) ∧ V.cell? ⟨br, orr + k * 28 + 1, none⟩ = some (.int .i64 rs[k].ver) ∧ V.cell? ⟨br, orr + k * 28 + 2, none⟩ = some (.int .i64 rs[k].kind) ∧ V.cell? ⟨br, orr + k * 28 + 3, none⟩ = some (.string (bs rs[k].act)) ∧ V.cell? ⟨br, orr + k * 28 + 6, none⟩ = some (.int .i64 rs[k].known)) := fun k h V hV => by
  obtain ⟨_, _, hk⟩ := hR.ru k h (by omega)
  have a := ((hR.sl.bel hV).at_ k rows[k] (List.getElem?_eq_getElem (by omega))).2
  exact ⟨a 0 _ hk.f0, a 1 _ hk.f1, a 2 _ hk.f2, a 3 _ hk.f3, a 6 _ hk.f6⟩
 have HVV := Lib.hid (fun (k : Nat) (h : k < rs.length) => hv rs[k] (List.getElem_mem h))
 have HA : Hid (∀ j v, rows[i][j]? = some v → w.cell? ⟨br, orr + i * 28 + j, none⟩ = some v) := (hR.sl.at_ i rows[i] (List.getElem?_eq_getElem (by omega))).2
 have hl := hri.len
 have hone := hri.one
 obtain ⟨r, hr⟩ : ∃ r, r = rs[i] := ⟨_, rfl⟩
 rw [← hr] at hri ⊢
 obtain ⟨R, hRR⟩ : ∃ R, R = headR (before (rs.take i) r) r := ⟨_, rfl⟩
 rw [← hRR]
 have HR : Hid (R = if timed r = false then 3 else if (before (rs.take i) r).any (fun v => v.ver == r.ver) then 5 else if (hasAct r.kind != r.act.isEmpty) && !(before (rs.take i) r).any (fun v => othR v r) then (match (before (rs.take i) r).getLast? with | none => if r.ver = 1 then 0 else 6 | some v => if v.ver = r.ver - 1 ∧ v.known ≤ r.known then 0 else 6) else 13) := hRR
 clear hRR hR hv hr
 have f0 := Lib.hid hri.f0
 have f1 := Lib.hid hri.f1
 have f2 := Lib.hid hri.f2
 have f3 := Lib.hid hri.f3
 have f4 := Lib.hid hri.f4
 have f5 := Lib.hid hri.f5
 have f6 := Lib.hid hri.f6
 clear hri
 generalize rows[i] = l at *
 have hz2 : (i : Int) < (rs.length : Int) := by omega
 have hpl : 0 < l.length := by omega
 have BB := Lib.hid (Below.refl w.heap.size w)
 have KS := Lib.hid (rScoped_any r.kind)
 have HT : Hid (timed r = (decide (1 ≤ r.ver) && decide (r.ver ≤ 999) && decide (0 ≤ r.fr) && decide (r.fr < r.un) && decide (r.un ≤ 36525) && decide (0 ≤ r.known) && decide (r.known ≤ 36524))) := rfl
 by_cases t1 : r.ver < 1
 ·have HR2 : Hid (R = 3) := by
   show _ = _
   rw [HR.out, if_pos]
   rw [HT.out]
   have e : (decide (1 ≤ r.ver) && decide (r.ver ≤ 999) && decide (0 ≤ r.fr) && decide (r.fr < r.un) && decide (r.un ≤ 36525) && decide (0 ≤ r.known) && decide (r.known ≤ 36524)) = false := by
    simp only [Bool.and_eq_false_iff, decide_eq_false_iff_not]
    omega
   exact e
  clear HR HT KS HVV KO
  generalize r.ver = rv at *
  generalize r.fr = fr at *
  generalize r.un = un at *
  generalize r.known = kn at *
  go_enter Try.func66, Try.ntmps66
  go_wp2_with (first | ((with_reducible show wpList _ _ _ ({ dst := some 13, op := _, type := _, pos := _, after := _, guard := _ } :: _) _ _); refine wl_loadP rfl rfl rfl (load_rule _ _ _ l hl HA.out) ?_; simp only [Act.put, zA, zB, zC]) | ((with_reducible show wpList _ _ _ ({ dst := some 5, op := _, type := _, pos := _, after := _, guard := _ } :: _) _ _); refine wl_rbox (L := l) rfl rfl rfl rfl hl hone rfl rfl ?_; intro U1 hb hs5 hx; replace BB := Lib.hid (BB.out.trans (hb.mono BB.out.size)); have X5 := Lib.hid hx; clear hb hx hs5; simp only [Act.put, zA, zB, zC]; obtain ⟨k1, -⟩ := X5.out 1 _ f1.out; obtain ⟨k4, -⟩ := X5.out 4 _ f4.out; obtain ⟨k5, -⟩ := X5.out 5 _ f5.out; obtain ⟨k6, -⟩ := X5.out 6 _ f6.out))
  go_ret
  exact ⟨ret_int HR2.out.symm, BB.out⟩
 by_cases t2 : 999 < r.ver
 ·have HR2 : Hid (R = 3) := by
   show _ = _
   rw [HR.out, if_pos]
   rw [HT.out]
   have e : (decide (1 ≤ r.ver) && decide (r.ver ≤ 999) && decide (0 ≤ r.fr) && decide (r.fr < r.un) && decide (r.un ≤ 36525) && decide (0 ≤ r.known) && decide (r.known ≤ 36524)) = false := by
    simp only [Bool.and_eq_false_iff, decide_eq_false_iff_not]
    omega
   exact e
  clear HR HT KS HVV KO
  generalize r.ver = rv at *
  generalize r.fr = fr at *
  generalize r.un = un at *
  generalize r.known = kn at *
  go_enter Try.func66, Try.ntmps66
  go_wp2_with (first | ((with_reducible show wpList _ _ _ ({ dst := some 13, op := _, type := _, pos := _, after := _, guard := _ } :: _) _ _); refine wl_loadP rfl rfl rfl (load_rule _ _ _ l hl HA.out) ?_; simp only [Act.put, zA, zB, zC]) | ((with_reducible show wpList _ _ _ ({ dst := some 5, op := _, type := _, pos := _, after := _, guard := _ } :: _) _ _); refine wl_rbox (L := l) rfl rfl rfl rfl hl hone rfl rfl ?_; intro U1 hb hs5 hx; replace BB := Lib.hid (BB.out.trans (hb.mono BB.out.size)); have X5 := Lib.hid hx; clear hb hx hs5; simp only [Act.put, zA, zB, zC]; obtain ⟨k1, -⟩ := X5.out 1 _ f1.out; obtain ⟨k4, -⟩ := X5.out 4 _ f4.out; obtain ⟨k5, -⟩ := X5.out 5 _ f5.out; obtain ⟨k6, -⟩ := X5.out 6 _ f6.out))
  go_ret
  exact ⟨ret_int HR2.out.symm, BB.out⟩
 by_cases t3 : r.fr < 0
 ·have HR2 : Hid (R = 3) := by
   show _ = _
   rw [HR.out, if_pos]
   rw [HT.out]
   have e : (decide (1 ≤ r.ver) && decide (r.ver ≤ 999) && decide (0 ≤ r.fr) && decide (r.fr < r.un) && decide (r.un ≤ 36525) && decide (0 ≤ r.known) && decide (r.known ≤ 36524)) = false := by
    simp only [Bool.and_eq_false_iff, decide_eq_false_iff_not]
    omega
   exact e
  clear HR HT KS HVV KO
  generalize r.ver = rv at *
  generalize r.fr = fr at *
  generalize r.un = un at *
  generalize r.known = kn at *
  go_enter Try.func66, Try.ntmps66
  go_wp2_with (first | ((with_reducible show wpList _ _ _ ({ dst := some 13, op := _, type := _, pos := _, after := _, guard := _ } :: _) _ _); refine wl_loadP rfl rfl rfl (load_rule _ _ _ l hl HA.out) ?_; simp only [Act.put, zA, zB, zC]) | ((with_reducible show wpList _ _ _ ({ dst := some 5, op := _, type := _, pos := _, after := _, guard := _ } :: _) _ _); refine wl_rbox (L := l) rfl rfl rfl rfl hl hone rfl rfl ?_; intro U1 hb hs5 hx; replace BB := Lib.hid (BB.out.trans (hb.mono BB.out.size)); have X5 := Lib.hid hx; clear hb hx hs5; simp only [Act.put, zA, zB, zC]; obtain ⟨k1, -⟩ := X5.out 1 _ f1.out; obtain ⟨k4, -⟩ := X5.out 4 _ f4.out; obtain ⟨k5, -⟩ := X5.out 5 _ f5.out; obtain ⟨k6, -⟩ := X5.out 6 _ f6.out))
  go_ret
  exact ⟨ret_int HR2.out.symm, BB.out⟩
 by_cases t4 : r.un ≤ r.fr
 ·have HR2 : Hid (R = 3) := by
   show _ = _
   rw [HR.out, if_pos]
   rw [HT.out]
   have e : (decide (1 ≤ r.ver) && decide (r.ver ≤ 999) && decide (0 ≤ r.fr) && decide (r.fr < r.un) && decide (r.un ≤ 36525) && decide (0 ≤ r.known) && decide (r.known ≤ 36524)) = false := by
    simp only [Bool.and_eq_false_iff, decide_eq_false_iff_not]
    omega
   exact e
  clear HR HT KS HVV KO
  generalize r.ver = rv at *
  generalize r.fr = fr at *
  generalize r.un = un at *
  generalize r.known = kn at *
  go_enter Try.func66, Try.ntmps66
  go_wp2_with (first | ((with_reducible show wpList _ _ _ ({ dst := some 13, op := _, type := _, pos := _, after := _, guard := _ } :: _) _ _); refine wl_loadP rfl rfl rfl (load_rule _ _ _ l hl HA.out) ?_; simp only [Act.put, zA, zB, zC]) | ((with_reducible show wpList _ _ _ ({ dst := some 5, op := _, type := _, pos := _, after := _, guard := _ } :: _) _ _); refine wl_rbox (L := l) rfl rfl rfl rfl hl hone rfl rfl ?_; intro U1 hb hs5 hx; replace BB := Lib.hid (BB.out.trans (hb.mono BB.out.size)); have X5 := Lib.hid hx; clear hb hx hs5; simp only [Act.put, zA, zB, zC]; obtain ⟨k1, -⟩ := X5.out 1 _ f1.out; obtain ⟨k4, -⟩ := X5.out 4 _ f4.out; obtain ⟨k5, -⟩ := X5.out 5 _ f5.out; obtain ⟨k6, -⟩ := X5.out 6 _ f6.out))
  go_ret
  exact ⟨ret_int HR2.out.symm, BB.out⟩
 by_cases t5 : 36525 < r.un
 ·have HR2 : Hid (R = 3) := by
   show _ = _
   rw [HR.out, if_pos]
   rw [HT.out]
   have e : (decide (1 ≤ r.ver) && decide (r.ver ≤ 999) && decide (0 ≤ r.fr) && decide (r.fr < r.un) && decide (r.un ≤ 36525) && decide (0 ≤ r.known) && decide (r.known ≤ 36524)) = false := by
    simp only [Bool.and_eq_false_iff, decide_eq_false_iff_not]
    omega
   exact e
  clear HR HT KS HVV KO
  generalize r.ver = rv at *
  generalize r.fr = fr at *
  generalize r.un = un at *
  generalize r.known = kn at *
  go_enter Try.func66, Try.ntmps66
  go_wp2_with (first | ((with_reducible show wpList _ _ _ ({ dst := some 13, op := _, type := _, pos := _, after := _, guard := _ } :: _) _ _); refine wl_loadP rfl rfl rfl (load_rule _ _ _ l hl HA.out) ?_; simp only [Act.put, zA, zB, zC]) | ((with_reducible show wpList _ _ _ ({ dst := some 5, op := _, type := _, pos := _, after := _, guard := _ } :: _) _ _); refine wl_rbox (L := l) rfl rfl rfl rfl hl hone rfl rfl ?_; intro U1 hb hs5 hx; replace BB := Lib.hid (BB.out.trans (hb.mono BB.out.size)); have X5 := Lib.hid hx; clear hb hx hs5; simp only [Act.put, zA, zB, zC]; obtain ⟨k1, -⟩ := X5.out 1 _ f1.out; obtain ⟨k4, -⟩ := X5.out 4 _ f4.out; obtain ⟨k5, -⟩ := X5.out 5 _ f5.out; obtain ⟨k6, -⟩ := X5.out 6 _ f6.out))
  go_ret
  exact ⟨ret_int HR2.out.symm, BB.out⟩
 by_cases t6 : r.known < 0
 ·have HR2 : Hid (R = 3) := by
   show _ = _
   rw [HR.out, if_pos]
   rw [HT.out]
   have e : (decide (1 ≤ r.ver) && decide (r.ver ≤ 999) && decide (0 ≤ r.fr) && decide (r.fr < r.un) && decide (r.un ≤ 36525) && decide (0 ≤ r.known) && decide (r.known ≤ 36524)) = false := by
    simp only [Bool.and_eq_false_iff, decide_eq_false_iff_not]
    omega
   exact e
  clear HR HT KS HVV KO
  generalize r.ver = rv at *
  generalize r.fr = fr at *
  generalize r.un = un at *
  generalize r.known = kn at *
  go_enter Try.func66, Try.ntmps66
  go_wp2_with (first | ((with_reducible show wpList _ _ _ ({ dst := some 13, op := _, type := _, pos := _, after := _, guard := _ } :: _) _ _); refine wl_loadP rfl rfl rfl (load_rule _ _ _ l hl HA.out) ?_; simp only [Act.put, zA, zB, zC]) | ((with_reducible show wpList _ _ _ ({ dst := some 5, op := _, type := _, pos := _, after := _, guard := _ } :: _) _ _); refine wl_rbox (L := l) rfl rfl rfl rfl hl hone rfl rfl ?_; intro U1 hb hs5 hx; replace BB := Lib.hid (BB.out.trans (hb.mono BB.out.size)); have X5 := Lib.hid hx; clear hb hx hs5; simp only [Act.put, zA, zB, zC]; obtain ⟨k1, -⟩ := X5.out 1 _ f1.out; obtain ⟨k4, -⟩ := X5.out 4 _ f4.out; obtain ⟨k5, -⟩ := X5.out 5 _ f5.out; obtain ⟨k6, -⟩ := X5.out 6 _ f6.out))
  go_ret
  exact ⟨ret_int HR2.out.symm, BB.out⟩
 by_cases t7 : 36524 < r.known
 ·have HR2 : Hid (R = 3) := by
   show _ = _
   rw [HR.out, if_pos]
   rw [HT.out]
   have e : (decide (1 ≤ r.ver) && decide (r.ver ≤ 999) && decide (0 ≤ r.fr) && decide (r.fr < r.un) && decide (r.un ≤ 36525) && decide (0 ≤ r.known) && decide (r.known ≤ 36524)) = false := by
    simp only [Bool.and_eq_false_iff, decide_eq_false_iff_not]
    omega
   exact e
  clear HR HT KS HVV KO
  generalize r.ver = rv at *
  generalize r.fr = fr at *
  generalize r.un = un at *
  generalize r.known = kn at *
  go_enter Try.func66, Try.ntmps66
  go_wp2_with (first | ((with_reducible show wpList _ _ _ ({ dst := some 13, op := _, type := _, pos := _, after := _, guard := _ } :: _) _ _); refine wl_loadP rfl rfl rfl (load_rule _ _ _ l hl HA.out) ?_; simp only [Act.put, zA, zB, zC]) | ((with_reducible show wpList _ _ _ ({ dst := some 5, op := _, type := _, pos := _, after := _, guard := _ } :: _) _ _); refine wl_rbox (L := l) rfl rfl rfl rfl hl hone rfl rfl ?_; intro U1 hb hs5 hx; replace BB := Lib.hid (BB.out.trans (hb.mono BB.out.size)); have X5 := Lib.hid hx; clear hb hx hs5; simp only [Act.put, zA, zB, zC]; obtain ⟨k1, -⟩ := X5.out 1 _ f1.out; obtain ⟨k4, -⟩ := X5.out 4 _ f4.out; obtain ⟨k5, -⟩ := X5.out 5 _ f5.out; obtain ⟨k6, -⟩ := X5.out 6 _ f6.out))
  go_ret
  exact ⟨ret_int HR2.out.symm, BB.out⟩
 have htm : timed r = true := by
  rw [HT.out]
  simp only [Bool.and_eq_true, decide_eq_true_eq]
  omega
 have HR1 : Hid (R = if (before (rs.take i) r).any (fun v => v.ver == r.ver) then 5 else if (hasAct r.kind != r.act.isEmpty) && !(before (rs.take i) r).any (fun v => othR v r) then (match (before (rs.take i) r).getLast? with | none => if r.ver = 1 then 0 else 6 | some v => if v.ver = r.ver - 1 ∧ v.known ≤ r.known then 0 else 6) else 13) := by show _ = _; rw [HR.out, if_neg (by rw [htm]; simp)]
 clear HR HT htm
 go_enter Try.func66, Try.ntmps66
 go_wp2_with (first | ((with_reducible show wpList _ _ _ ({ dst := some 13, op := _, type := _, pos := _, after := _, guard := _ } :: _) _ _); refine wl_loadP rfl rfl rfl (load_rule _ _ _ l hl HA.out) ?_; simp only [Act.put, zA, zB, zC]) | ((with_reducible show wpList _ _ _ ({ dst := some 5, op := _, type := _, pos := _, after := _, guard := _ } :: _) _ _); refine wl_rbox (L := l) rfl rfl rfl rfl hl hone rfl rfl ?_; intro U1 hb hs5 hx; replace BB := Lib.hid (BB.out.trans (hb.mono BB.out.size)); have X5 := Lib.hid hx; clear hb hx hs5; simp only [Act.put, zA, zB, zC]; obtain ⟨k1, -⟩ := X5.out 1 _ f1.out; obtain ⟨k4, -⟩ := X5.out 4 _ f4.out; obtain ⟨k5, -⟩ := X5.out 5 _ f5.out; obtain ⟨k6, -⟩ := X5.out 6 _ f6.out))
 clear k1 k4 k5 k6
 go_loopg [6, 7, 8] i (fun g v6 v7 v8 wr => ∃ (k : Nat) (ot : Bool) (la : Int), k ≤ i ∧ i - k ≤ g ∧ v8 = .int .i64 (k : Nat) ∧ v6 = .bool ot ∧ v7 = .int .i64 la ∧ Hid ((before (rs.take k) r).any (fun v => v.ver == r.ver) = false) ∧ Hid ((before (rs.take k) r).any (fun v => othR v r) = ot) ∧ Hid ((la = -1 ∧ (before (rs.take k) r).getLast? = none) ∨ ∃ (j : Nat) (hj : j < rs.length), la = j ∧ (before (rs.take k) r).getLast? = some rs[j]) ∧ Hid (RowKit.Below w.heap.size w wr) ∧ Hid (BoxL wr w.heap.size l))
 case atStart => exact ⟨0, false, -1, Nat.zero_le _, by omega, by simp, rfl, rfl, by show _ = _; simp [before], by show _ = _; simp [before], .inl ⟨rfl, by simp [before]⟩, BB, X5⟩
 clear BB X5
 case round =>
  obtain ⟨k, ot, la, hk, hg, rfl, rfl, rfl, HM1, HM2, HM3, BB, X5⟩ := hrel
  by_cases hlt : k < i
  ·have hz : (k : Int) < (i : Int) := by omega
   have hkL : k < rs.length := by omega
   have hz1 : (k : Int) < (rs.length : Int) := by omega
   obtain ⟨zk0, zk1, zk2, zk3, -⟩ := KO.out k hkL _ BB.out
   obtain ⟨zr0, -⟩ := X5.out 0 _ f0.out
   obtain ⟨zr1, -⟩ := X5.out 1 _ f1.out
   obtain ⟨zr2, -⟩ := X5.out 2 _ f2.out
   obtain ⟨zr3, -⟩ := X5.out 3 _ f3.out
   have ET : Hid (rs.take (k + 1) = rs.take k ++ [rs[k]]) := List.take_succ_eq_append_getElem hkL
   have EB : Hid (before (rs.take (k + 1)) r = before (rs.take k) r ++ (if rs[k].nm == r.nm then [rs[k]] else [])) := by show _ = _; rw [ET.out, before_snoc]
   have EM : Hid (∀ v, v ∈ rs.take (k + 1) → v.nm == r.nm → v ∈ before (rs.take i) r) := fun v h h2 => List.mem_filter.2 ⟨by
    have : rs.take i = rs.take (k + 1) ++ (rs.drop (k + 1)).take (i - (k + 1)) := by rw [← List.take_append_drop (k + 1) (rs.take i), List.take_take, Nat.min_eq_left (by omega), List.drop_take]
    rw [this]; exact List.mem_append_left _ h, h2⟩
   have EK : Hid (rs[k] ∈ rs.take (k + 1)) := by show _ ∈ _; rw [ET.out]; exact List.mem_append_right _ (List.mem_singleton.2 rfl)
   have en : ((bs rs[k].nm).toList == (bs r.nm).toList) = (rs[k].nm == r.nm) := by rw [bs_list, bs_list]
   have ea : ((bs rs[k].act).toList == (bs r.act).toList) = (rs[k].act == r.act) := by rw [bs_list, bs_list]
   have e2 : IntKind.i64.wrap ((k : Int) + 1) = ((k + 1 : Nat) : Int) := by rw [IntWalk.i64_in _ (by omega)]; rfl
   have EO : Hid (othR rs[k] r = (rs[k].kind != r.kind || !(rs[k].act == r.act))) := rfl
   clear ET
   have HLK : Hid (∀ (q : Bool), q = true → ∃ (j : Nat) (hj : j < rs.length), (k : Int) = (j : Nat) ∧ ((before (rs.take k) r) ++ [rs[k]]).getLast? = some rs[j]) := fun _ _ => ⟨k, hkL, rfl, by simp⟩
   generalize hrk : rs[k] = rk at *
   cases hqn : (rk.nm == r.nm) with
   | false =>
    rw [hqn] at en EB
    have EB2 : Hid (before (rs.take (k + 1)) r = before (rs.take k) r) := by show _ = _; rw [EB.out]; simp
    clear EB EM EK EO HLK ea
    generalize bs rk.nm = s1 at *
    generalize bs r.nm = s2 at *
    go_wp2_with fail
    go_quiet (fail)
    go_wp2_with fail
    go_roundg (i - (k + 1))
    case measure => omega
    case rel => exact ⟨k + 1, ot, la, by omega, Nat.le_refl _, by simp, rfl, rfl, by rw [EB2.out]; exact HM1, by rw [EB2.out]; exact HM2, by rw [EB2.out]; exact HM3, by show RowKit.Below _ _ _; exact (by repeat' (first | (with_reducible exact BB.out) | (with_reducible refine Below.setCell ?_ ?_ _) | (with_reducible refine Below.alloc ?_ ?_ _) | (with_reducible refine Below.drew ?_) | (with_reducible refine below_drewN ?_ _) | (with_reducible exact Below.refl _ _) | omega | (simp; done) | (simp; omega))), by show BoxL _ _ _; exact X5.out⟩
   | true =>
    rw [hqn] at en EB
    have EB2 : Hid (before (rs.take (k + 1)) r = before (rs.take k) r ++ [rk]) := by show _ = _; rw [EB.out]; simp
    have EV : Hid (rk.ver = r.ver → R = 5) := fun h => by rw [HR1.out, if_pos (List.any_eq_true.2 ⟨rk, EM.out rk EK.out (by rw [hqn]), by simpa using h⟩)]
    clear EB EM EK
    have HM3N : Hid (((k : Int) = -1 ∧ (before (rs.take (k + 1)) r).getLast? = none) ∨ ∃ (j : Nat) (hj : j < rs.length), (k : Int) = j ∧ (before (rs.take (k + 1)) r).getLast? = some rs[j]) := .inr ⟨k, hkL, rfl, by rw [EB2.out, hrk]; simp⟩
    by_cases hvv : rk.ver = r.ver
    ·have HR2 := Lib.hid (EV.out hvv)
     have hvb : (rk.ver == r.ver) = true := by simpa using hvv
     clear EV EB2 HM3N HLK EO ea hvv
     generalize bs rk.nm = s1 at *
     generalize bs r.nm = s2 at *
     generalize rk.ver = v1 at *
     generalize r.ver = v2 at *
     obtain rfl : v1 = v2 := by simpa using hvb
     clear hvb
     go_wp2_with fail
     go_quiet (fail)
     go_wp2_with fail
     go_quiet (fail)
     go_wp2_with fail
     go_ret
     exact ⟨ret_int HR2.out.symm, by show RowKit.Below _ _ _; exact (by repeat' (first | (with_reducible exact BB.out) | (with_reducible refine Below.setCell ?_ ?_ _) | (with_reducible refine Below.alloc ?_ ?_ _) | (with_reducible refine Below.drew ?_) | (with_reducible refine below_drewN ?_ _) | (with_reducible exact Below.refl _ _) | omega | (simp; done) | (simp; omega)))⟩
    ·have hvb : (rk.ver == r.ver) = false := beq_eq_false_iff_ne.2 hvv
     have HM1N : Hid ((before (rs.take (k + 1)) r).any (fun v => v.ver == r.ver) = false) := by show _ = _; rw [EB2.out, List.any_append, HM1.out]; simp [hvb]
     have HM2N : Hid ((before (rs.take (k + 1)) r).any (fun v => othR v r) = (ot || othR rk r)) := by show _ = _; rw [EB2.out, List.any_append, HM2.out]; simp
     clear EV EB2 HLK HM1 HM2 HM3
     generalize othR rk r = orr' at *
     generalize bs rk.nm = s1 at *
     generalize bs r.nm = s2 at *
     generalize bs rk.act = s3 at *
     generalize bs r.act = s4 at *
     generalize (rk.act == r.act) = qa at *
     generalize rk.ver = v1 at *
     generalize rk.kind = kd1 at *
     clear hrk
     cases ot with
     | true =>
      have HM2P : Hid ((before (rs.take (k + 1)) r).any (fun v => othR v r) = true) := by show _ = _; rw [HM2N.out]; rfl
      clear EO HM2N
      go_wp2_with fail
      go_quiet (fail)
      go_wp2_with fail
      go_quiet (fail)
      go_wp2_with fail
      go_quiet (fail)
      go_wp2_with fail
      all_goals
       go_roundg (i - (k + 1))
       case measure => omega
       case rel => exact ⟨k + 1, true, (k : Nat), by omega, Nat.le_refl _, by simp, rfl, rfl, HM1N, HM2P, HM3N, by show RowKit.Below _ _ _; exact (by repeat' (first | (with_reducible exact BB.out) | (with_reducible refine Below.setCell ?_ ?_ _) | (with_reducible refine Below.alloc ?_ ?_ _) | (with_reducible refine Below.drew ?_) | (with_reducible refine below_drewN ?_ _) | (with_reducible exact Below.refl _ _) | omega | (simp; done) | (simp; omega))), by show BoxL _ _ _; exact X5.out⟩
     | false =>
      by_cases hkk : kd1 = r.kind
      ·have EO2 : Hid (orr' = !qa) := by show _ = _; rw [EO.out]; simp [hkk]
       have hkb : (kd1 == r.kind) = true := by simpa using hkk
       cases qa with
       | true =>
        have HM2P : Hid ((before (rs.take (k + 1)) r).any (fun v => othR v r) = false) := by show _ = _; rw [HM2N.out, EO2.out]; rfl
        clear EO HM2N
        go_wp2_with fail
        go_quiet (fail)
        go_wp2_with fail
        go_quiet (fail)
        go_wp2_with fail
        go_quiet (fail)
        go_wp2_with fail
        all_goals
         go_roundg (i - (k + 1))
         case measure => omega
         case rel => exact ⟨k + 1, false, (k : Nat), by omega, Nat.le_refl _, by simp, rfl, rfl, HM1N, HM2P, HM3N, by show RowKit.Below _ _ _; exact (by repeat' (first | (with_reducible exact BB.out) | (with_reducible refine Below.setCell ?_ ?_ _) | (with_reducible refine Below.alloc ?_ ?_ _) | (with_reducible refine Below.drew ?_) | (with_reducible refine below_drewN ?_ _) | (with_reducible exact Below.refl _ _) | omega | (simp; done) | (simp; omega))), by show BoxL _ _ _; exact X5.out⟩
       | false =>
        have HM2P : Hid ((before (rs.take (k + 1)) r).any (fun v => othR v r) = true) := by show _ = _; rw [HM2N.out, EO2.out]; rfl
        clear EO HM2N
        go_wp2_with fail
        go_quiet (fail)
        go_wp2_with fail
        go_quiet (fail)
        go_wp2_with fail
        go_quiet (fail)
        go_wp2_with fail
        all_goals
         go_roundg (i - (k + 1))
         case measure => omega
         case rel => exact ⟨k + 1, true, (k : Nat), by omega, Nat.le_refl _, by simp, rfl, rfl, HM1N, HM2P, HM3N, by show RowKit.Below _ _ _; exact (by repeat' (first | (with_reducible exact BB.out) | (with_reducible refine Below.setCell ?_ ?_ _) | (with_reducible refine Below.alloc ?_ ?_ _) | (with_reducible refine Below.drew ?_) | (with_reducible refine below_drewN ?_ _) | (with_reducible exact Below.refl _ _) | omega | (simp; done) | (simp; omega))), by show BoxL _ _ _; exact X5.out⟩
      ·have hkb : (kd1 == r.kind) = false := beq_eq_false_iff_ne.2 hkk
       have HM2P : Hid ((before (rs.take (k + 1)) r).any (fun v => othR v r) = true) := by show _ = _; rw [HM2N.out, EO.out]; simp [hkk]
       clear EO HM2N
       go_wp2_with fail
       go_quiet (fail)
       go_wp2_with fail
       go_quiet (fail)
       go_wp2_with fail
       go_quiet (fail)
       go_wp2_with fail
       all_goals
        go_roundg (i - (k + 1))
        case measure => omega
        case rel => exact ⟨k + 1, true, (k : Nat), by omega, Nat.le_refl _, by simp, rfl, rfl, HM1N, HM2P, HM3N, by show RowKit.Below _ _ _; exact (by repeat' (first | (with_reducible exact BB.out) | (with_reducible refine Below.setCell ?_ ?_ _) | (with_reducible refine Below.alloc ?_ ?_ _) | (with_reducible refine Below.drew ?_) | (with_reducible refine below_drewN ?_ _) | (with_reducible exact Below.refl _ _) | omega | (simp; done) | (simp; omega))), by show BoxL _ _ _; exact X5.out⟩
  ·have hz : ¬ (k : Int) < (i : Int) := by omega
   have hki : k = i := by omega
   subst hki
   obtain ⟨zr1, -⟩ := X5.out 1 _ f1.out
   obtain ⟨zr2, -⟩ := X5.out 2 _ f2.out
   obtain ⟨zr3, -⟩ := X5.out 3 _ f3.out
   have e3 := nm_test r.act
   have HR2 : Hid (R = if (hasAct r.kind != r.act.isEmpty) && !ot then (match (before (rs.take k) r).getLast? with | none => if r.ver = 1 then 0 else 6 | some v => if v.ver = r.ver - 1 ∧ v.known ≤ r.known then 0 else 6) else 13) := by show _ = _; rw [HR1.out, if_neg (by rw [HM1.out]; simp), HM2.out]
   clear HR1 HM1 HM2 hlt hg
   go_wp2_with fail
   refine (KS.out _).mono ?_
   rintro _ V ⟨hh, hw⟩
   subst hw
   replace hh : _ = Ending.returned (.bool (hasAct r.kind)) := hh
   subst hh
   clear KS
   obtain ⟨zr6, -⟩ := X5.out 6 _ f6.out
   generalize hasAct r.kind = ha at *
   generalize r.act.isEmpty = em at *
   generalize bs r.act = s3 at *
   cases ot with
   | true =>
    have HR3 : Hid (R = 13) := by show _ = _; rw [HR2.out]; simp
    go_wp2_with fail
    go_ret
    exact ⟨ret_int HR3.out.symm, BB.out⟩
   | false =>
    cases ha with
    | true =>
     cases em with
     | true =>
      have HR3 : Hid (R = 13) := by show _ = _; rw [HR2.out]; rfl
      go_wp2_with fail
      go_ret
      exact ⟨ret_int HR3.out.symm, BB.out⟩
     | false =>
      have HR3 : Hid (R = match (before (rs.take k) r).getLast? with | none => if r.ver = 1 then 0 else 6 | some v => if v.ver = r.ver - 1 ∧ v.known ≤ r.known then 0 else 6) := by show _ = _; rw [HR2.out]; rfl
      clear HR2
      rcases HM3.out with ⟨rfl, h2⟩ | ⟨j, hj, rfl, h2⟩
      ·by_cases hv1 : r.ver = 1
       ·have HR4 : Hid (R = 0) := by show _ = _; rw [HR3.out, h2, hv1]; rfl
        have hvb : (r.ver == 1) = true := by simpa using hv1
        clear HR3 HM3 h2 f1 t1 t2 KO HVV
        generalize r.ver = v2 at *
        subst hv1
        go_wp2_with fail
        go_quiet (fail)
        go_wp2_with fail
        go_ret
        exact ⟨ret_int HR4.out.symm, by show RowKit.Below _ _ _; exact (by repeat' (first | (with_reducible exact BB.out) | (with_reducible refine Below.setCell ?_ ?_ _) | (with_reducible refine Below.alloc ?_ ?_ _) | (with_reducible refine Below.drew ?_) | (with_reducible refine below_drewN ?_ _) | (with_reducible exact Below.refl _ _) | omega | (simp; done) | (simp; omega)))⟩
       ·have HR4 : Hid (R = 6) := by show _ = _; rw [HR3.out, h2]; simp [hv1]
        have hvb : (r.ver == 1) = false := beq_eq_false_iff_ne.2 hv1
        clear HR3 HM3 h2
        go_wp2_with fail
        have hb := (Below.refl V.heap.size V).drew
        have BB2 := Lib.hid (BB.out.trans (hb.mono BB.out.size))
        have hS : Hid (BoxL V.drew w.heap.size l) := Lib.hid (X5.out.bel hpl hb)
        refine wp_region_held (S := fun w' : World => Hid (BoxL w' w.heap.size l)) mixed ?_
        change wpAnyH _ _ _ _ _ _ _ _ V.drew
        clear hb
        generalize V.drew = U9 at *
        refine tk0 (v := ?_) (by kernel_rfl) (by kernel_rfl) (by kernel_rfl) (fun _ _ _ h => h) (Or.inl ⟨by first | rfl | (simp [Region.wanted, yielded]; done), ?_⟩) hS ?_
        rotate_left
        ·intro w' hSw; have s1 := (hSw.out 1 _ f1.out).1; clear hSw; go_simp; try with_reducible rfl
        simp only [Act.put, zA, zB, zC]
        refine tk1 (v := ?_) (by kernel_rfl) (by kernel_rfl) (by kernel_rfl) (fun _ _ _ h => h) (Or.inl ⟨by first | rfl | (simp [Region.wanted, yielded]; done), ?_⟩) hS ?_
        rotate_left
        ·intro w' hSw; have s1 := (hSw.out 1 _ f1.out).1; clear hSw; go_simp; try with_reducible rfl
        simp only [Act.put, zA, zB, zC]
        refine tk2 (v := ?_) (by kernel_rfl) (by kernel_rfl) (by kernel_rfl) (fun _ _ _ h => h) (Or.inl ⟨by first | rfl | (simp [Region.wanted, yielded]; done), ?_⟩) hS ?_
        rotate_left
        ·intro w' hSw; have s1 := (hSw.out 1 _ f1.out).1; clear hSw; go_simp; try with_reducible rfl
        simp only [Act.put, zA, zB, zC]
        refine tk3 (v := ?_) (by kernel_rfl) (by kernel_rfl) (by kernel_rfl) (fun _ _ _ h => h) (Or.inl ⟨by first | rfl | (simp [Region.wanted, yielded]; done), ?_⟩) hS ?_
        rotate_left
        ·intro w' hSw; have s1 := (hSw.out 1 _ f1.out).1; clear hSw; go_simp; try with_reducible rfl
        simp only [Act.put, zA, zB, zC]
        refine tk4 (v := ?_) (by kernel_rfl) (by kernel_rfl) (by kernel_rfl) (fun _ _ _ h => h) (Or.inl ⟨by first | rfl | (simp [Region.wanted, yielded]; done), ?_⟩) hS ?_
        rotate_left
        ·intro w' hSw; have s1 := (hSw.out 1 _ f1.out).1; clear hSw; go_simp; try with_reducible rfl
        simp only [Act.put, zA, zB, zC]
        refine tk5 (v := .bool true) (by kernel_rfl) (by kernel_rfl) (by kernel_rfl) (fun _ _ _ h => h) (Or.inl ⟨by first | rfl | (simp [Region.wanted, yielded]; done), ?_⟩) hS ?_
        ·intro w' hSw
         clear hSw; go_simp; first | done | with_reducible rfl | (simp_all; done) | trace_state
        simp only [Act.put, zA, zB, zC]
        refine tk6 (v := ?_) (by kernel_rfl) (by kernel_rfl) (by kernel_rfl) (fun _ _ _ h => h) (Or.inl ⟨by first | rfl | (simp [Region.wanted, yielded]; done), ?_⟩) hS ?_
        rotate_left
        ·intro w' hSw; have s1 := (hSw.out 1 _ f1.out).1; clear hSw; go_simp; try with_reducible rfl
        simp only [Act.put, zA, zB, zC]
        refine tk7 (v := ?_) (by kernel_rfl) (by kernel_rfl) (by kernel_rfl) (fun _ _ _ h => h) (Or.inl ⟨by first | rfl | (simp [Region.wanted, yielded]; done), ?_⟩) hS ?_
        rotate_left
        ·intro w' hSw; have s1 := (hSw.out 1 _ f1.out).1; clear hSw; go_simp; try with_reducible rfl
        simp only [Act.put, zA, zB, zC]
        refine tk8 (v := undef) (by kernel_rfl) (by kernel_rfl) (by kernel_rfl) (fun _ _ _ h => h) (Or.inr ⟨by rfl, rfl⟩) hS ?_
        simp only [Act.put, zA, zB, zC]
        refine tk9 (v := undef) (by kernel_rfl) (by kernel_rfl) (by kernel_rfl) (fun _ _ _ h => h) (Or.inr ⟨by rfl, rfl⟩) hS ?_
        simp only [Act.put, zA, zB, zC]
        refine tk10 (v := undef) (by kernel_rfl) (by kernel_rfl) (by kernel_rfl) (fun _ _ _ h => h) (Or.inr ⟨by rfl, rfl⟩) hS ?_
        simp only [Act.put, zA, zB, zC]
        refine tk11 (v := undef) (by kernel_rfl) (by kernel_rfl) (by kernel_rfl) (fun _ _ _ h => h) (Or.inr ⟨by rfl, rfl⟩) hS ?_
        simp only [Act.put, zA, zB, zC]
        refine tk12 (v := undef) (by kernel_rfl) (by kernel_rfl) (by kernel_rfl) (fun _ _ _ h => h) (Or.inr ⟨by rfl, rfl⟩) hS ?_
        simp only [Act.put, zA, zB, zC]
        refine tk13 (v := undef) (by kernel_rfl) (by kernel_rfl) (by kernel_rfl) (fun _ _ _ h => h) (Or.inr ⟨by rfl, rfl⟩) hS ?_
        simp only [Act.put, zA, zB, zC]
        refine tk14 (v := undef) (by kernel_rfl) (by kernel_rfl) (by kernel_rfl) (fun _ _ _ h => h) (Or.inr ⟨by rfl, rfl⟩) hS ?_
        simp only [Act.put, zA, zB, zC]
        refine tk15 (v := undef) (by kernel_rfl) (by kernel_rfl) (by kernel_rfl) (fun _ _ _ h => h) (Or.inr ⟨by rfl, rfl⟩) hS ?_
        simp only [Act.put, zA, zB, zC]
        refine tk16 (v := undef) (by kernel_rfl) (by kernel_rfl) (by kernel_rfl) (fun _ _ _ h => h) (Or.inr ⟨by rfl, rfl⟩) hS ?_
        simp only [Act.put, zA, zB, zC]
        refine tk17 (v := undef) (by kernel_rfl) (by kernel_rfl) (by kernel_rfl) (fun _ _ _ h => h) (Or.inr ⟨by rfl, rfl⟩) hS ?_
        simp only [Act.put, zA, zB, zC]
        refine tk18 (v := undef) (by kernel_rfl) (by kernel_rfl) (by kernel_rfl) (fun _ _ _ h => h) (Or.inr ⟨by rfl, rfl⟩) hS ?_
        simp only [Act.put, zA, zB, zC]
        refine tk19 (v := undef) (by kernel_rfl) (by kernel_rfl) (by kernel_rfl) (fun _ _ _ h => h) (Or.inr ⟨by rfl, rfl⟩) hS ?_
        simp only [Act.put, zA, zB, zC]
        refine tk20 (v := undef) (by kernel_rfl) (by kernel_rfl) (by kernel_rfl) (fun _ _ _ h => h) (Or.inr ⟨by rfl, rfl⟩) hS ?_
        simp only [Act.put, zA, zB, zC]
        refine tk21 (v := undef) (by kernel_rfl) (by kernel_rfl) (by kernel_rfl) (fun _ _ _ h => h) (Or.inr ⟨by rfl, rfl⟩) hS ?_
        simp only [Act.put, zA, zB, zC]
        refine tk22 (v := undef) (by kernel_rfl) (by kernel_rfl) (by kernel_rfl) (fun _ _ _ h => h) (Or.inr ⟨by rfl, rfl⟩) hS ?_
        simp only [Act.put, zA, zB, zC]
        refine tk23 (v := undef) (by kernel_rfl) (by kernel_rfl) (by kernel_rfl) (fun _ _ _ h => h) (Or.inr ⟨by rfl, rfl⟩) hS ?_
        simp only [Act.put, zA, zB, zC]
        refine tk24 (v := undef) (by kernel_rfl) (by kernel_rfl) (by kernel_rfl) (fun _ _ _ h => h) (Or.inr ⟨by rfl, rfl⟩) hS ?_
        simp only [Act.put, zA, zB, zC]
        refine tk25 (v := undef) (by kernel_rfl) (by kernel_rfl) (by kernel_rfl) (fun _ _ _ h => h) (Or.inr ⟨by rfl, rfl⟩) hS ?_
        simp only [Act.put, zA, zB, zC]
        refine tk26 (v := undef) (by kernel_rfl) (by kernel_rfl) (by kernel_rfl) (fun _ _ _ h => h) (Or.inr ⟨by rfl, rfl⟩) hS ?_
        simp only [Act.put, zA, zB, zC]
        refine tk27 (v := undef) (by kernel_rfl) (by kernel_rfl) (by kernel_rfl) (fun _ _ _ h => h) (Or.inr ⟨by rfl, rfl⟩) hS ?_
        simp only [Act.put, zA, zB, zC]
        refine tk28 (v := undef) (by kernel_rfl) (by kernel_rfl) (by kernel_rfl) (fun _ _ _ h => h) (Or.inr ⟨by rfl, rfl⟩) hS ?_
        simp only [Act.put, zA, zB, zC]
        refine tk29 (v := undef) (by kernel_rfl) (by kernel_rfl) (by kernel_rfl) (fun _ _ _ h => h) (Or.inr ⟨by rfl, rfl⟩) hS ?_
        simp only [Act.put, zA, zB, zC]
        refine tk30 (v := undef) (by kernel_rfl) (by kernel_rfl) (by kernel_rfl) (fun _ _ _ h => h) (Or.inr ⟨by rfl, rfl⟩) hS ?_
        simp only [Act.put, zA, zB, zC]
        refine tk31 (v := ?_) (by kernel_rfl) (by kernel_rfl) (by kernel_rfl) (fun _ _ _ h => h) (Or.inl ⟨by first | rfl | (simp [Region.wanted, yielded]; done), ?_⟩) hS ?_
        rotate_left
        ·intro w' hSw; have s1 := (hSw.out 1 _ f1.out).1; clear hSw; go_simp; try with_reducible rfl
        simp only [Act.put, zA, zB, zC]
        refine wpAnyH_done (by kernel_rfl) ?_ _
        clear hS
        go_wp2_with fail
        go_ret
        exact ⟨ret_int HR4.out.symm, BB2.out⟩
      ·obtain ⟨-, zj1, -, -, zj6⟩ := KO.out j hj _ BB.out
       have hzj : (j : Int) < (rs.length : Int) := by omega
       have hj0 : ¬ (j : Int) < 0 := by omega
       have hiv := HVV.out j hj
       have HR4 : Hid (R = if rs[j].ver = r.ver - 1 ∧ rs[j].known ≤ r.known then 0 else 6) := by show _ = _; rw [HR3.out, h2]
       clear HR3 HM3 h2
       generalize rs[j].ver = vj at *
       generalize rs[j].known = kj at *
       by_cases hvj : vj = r.ver - 1
       ·have ew : IntKind.i64.wrap (vj + 1) = r.ver := by rw [IntWalk.i64_in _ (by omega)]; omega
        by_cases hkj : kj ≤ r.known
        ·have HR5 : Hid (R = 0) := by show _ = _; rw [HR4.out, if_pos ⟨hvj, hkj⟩]
         have hkn : ¬ r.known < kj := by omega
         clear hvj hiv
         go_wp2_with fail
         have hb := (Below.refl V.heap.size V).drew
         have BB2 := Lib.hid (BB.out.trans (hb.mono BB.out.size))
         have hS : Hid (BoxL V.drew w.heap.size l) ∧ V.drew.cell? ⟨br, orr + j * 28 + 1, none⟩ = some (.int .i64 vj) ∧ V.drew.cell? ⟨br, orr + j * 28 + 6, none⟩ = some (.int .i64 kj) := ⟨Lib.hid (X5.out.bel hpl hb), (hb.cell (World.block_lt_of_cell? _ _ zj1)).trans zj1, (hb.cell (World.block_lt_of_cell? _ _ zj6)).trans zj6⟩
         refine wp_region_held (S := fun w' : World => Hid (BoxL w' w.heap.size l) ∧ w'.cell? ⟨br, orr + j * 28 + 1, none⟩ = some (.int .i64 vj) ∧ w'.cell? ⟨br, orr + j * 28 + 6, none⟩ = some (.int .i64 kj)) mixed ?_
         change wpAnyH _ _ _ _ _ _ _ _ V.drew
         clear hb
         generalize V.drew = U9 at *
         refine tk0 (v := ?_) (by kernel_rfl) (by kernel_rfl) (by kernel_rfl) (fun _ _ _ h => h) (Or.inl ⟨by first | rfl | (simp [Region.wanted, yielded]; done), ?_⟩) hS ?_
         rotate_left
         ·intro w' hSw; obtain ⟨hx5, sj1, sj6⟩ := hSw; have s1 := (hx5.out 1 _ f1.out).1; have s6 := (hx5.out 6 _ f6.out).1; clear hx5; go_simp; try with_reducible rfl
         simp only [Act.put, zA, zB, zC]
         refine tk1 (v := .bool false) (by kernel_rfl) (by kernel_rfl) (by kernel_rfl) (fun _ _ _ h => h) (Or.inl ⟨by first | rfl | (simp [Region.wanted, yielded]; done), ?_⟩) hS ?_
         ·intro w' hSw
          clear hSw; go_simp; first | done | with_reducible rfl | (simp_all; done) | trace_state
         simp only [Act.put, zA, zB, zC]
         refine tk2 (v := ?_) (by kernel_rfl) (by kernel_rfl) (by kernel_rfl) (fun _ _ _ h => h) (Or.inl ⟨by first | rfl | (simp [Region.wanted, yielded]; done), ?_⟩) hS ?_
         rotate_left
         ·intro w' hSw; obtain ⟨hx5, sj1, sj6⟩ := hSw; have s1 := (hx5.out 1 _ f1.out).1; have s6 := (hx5.out 6 _ f6.out).1; clear hx5; go_simp; try with_reducible rfl
         simp only [Act.put, zA, zB, zC]
         refine tk3 (v := undef) (by kernel_rfl) (by kernel_rfl) (by kernel_rfl) (fun _ _ _ h => h) (Or.inr ⟨by rfl, rfl⟩) hS ?_
         simp only [Act.put, zA, zB, zC]
         refine tk4 (v := undef) (by kernel_rfl) (by kernel_rfl) (by kernel_rfl) (fun _ _ _ h => h) (Or.inr ⟨by rfl, rfl⟩) hS ?_
         simp only [Act.put, zA, zB, zC]
         refine tk5 (v := undef) (by kernel_rfl) (by kernel_rfl) (by kernel_rfl) (fun _ _ _ h => h) (Or.inr ⟨by rfl, rfl⟩) hS ?_
         simp only [Act.put, zA, zB, zC]
         refine tk6 (v := ?_) (by kernel_rfl) (by kernel_rfl) (by kernel_rfl) (fun _ _ _ h => h) (Or.inl ⟨by first | rfl | (simp [Region.wanted, yielded]; done), ?_⟩) hS ?_
         rotate_left
         ·intro w' hSw; obtain ⟨hx5, sj1, sj6⟩ := hSw; have s1 := (hx5.out 1 _ f1.out).1; have s6 := (hx5.out 6 _ f6.out).1; clear hx5; go_simp; try with_reducible rfl
         simp only [Act.put, zA, zB, zC]
         refine tk7 (v := ?_) (by kernel_rfl) (by kernel_rfl) (by kernel_rfl) (fun _ _ _ h => h) (Or.inl ⟨by first | rfl | (simp [Region.wanted, yielded]; done), ?_⟩) hS ?_
         rotate_left
         ·intro w' hSw; obtain ⟨hx5, sj1, sj6⟩ := hSw; have s1 := (hx5.out 1 _ f1.out).1; have s6 := (hx5.out 6 _ f6.out).1; clear hx5; go_simp; try with_reducible rfl
         simp only [Act.put, zA, zB, zC]
         refine tk8 (v := ?_) (by kernel_rfl) (by kernel_rfl) (by kernel_rfl) (fun _ _ _ h => h) (Or.inl ⟨by first | rfl | (simp [Region.wanted, yielded]; done), ?_⟩) hS ?_
         rotate_left
         ·intro w' hSw; obtain ⟨hx5, sj1, sj6⟩ := hSw; have s1 := (hx5.out 1 _ f1.out).1; have s6 := (hx5.out 6 _ f6.out).1; clear hx5; go_simp; try with_reducible rfl
         simp only [Act.put, zA, zB, zC]
         refine tk9 (v := .bool true) (by kernel_rfl) (by kernel_rfl) (by kernel_rfl) (fun _ _ _ h => h) (Or.inl ⟨by first | rfl | (simp [Region.wanted, yielded]; done), ?_⟩) hS ?_
         ·intro w' hSw
          clear hSw; go_simp; first | done | with_reducible rfl | (simp_all; done) | trace_state
         simp only [Act.put, zA, zB, zC]
         refine tk10 (v := ?_) (by kernel_rfl) (by kernel_rfl) (by kernel_rfl) (fun _ _ _ h => h) (Or.inl ⟨by first | rfl | (simp [Region.wanted, yielded]; done), ?_⟩) hS ?_
         rotate_left
         ·intro w' hSw; obtain ⟨hx5, sj1, sj6⟩ := hSw; have s1 := (hx5.out 1 _ f1.out).1; have s6 := (hx5.out 6 _ f6.out).1; clear hx5; go_simp; try with_reducible rfl
         simp only [Act.put, zA, zB, zC]
         refine tk11 (v := ?_) (by kernel_rfl) (by kernel_rfl) (by kernel_rfl) (fun _ _ _ h => h) (Or.inl ⟨by first | rfl | (simp [Region.wanted, yielded]; done), ?_⟩) hS ?_
         rotate_left
         ·intro w' hSw; obtain ⟨hx5, sj1, sj6⟩ := hSw; have s1 := (hx5.out 1 _ f1.out).1; have s6 := (hx5.out 6 _ f6.out).1; clear hx5; go_simp; try with_reducible rfl
         simp only [Act.put, zA, zB, zC]
         refine tk12 (v := ?_) (by kernel_rfl) (by kernel_rfl) (by kernel_rfl) (fun _ _ _ h => h) (Or.inl ⟨by first | rfl | (simp [Region.wanted, yielded]; done), ?_⟩) hS ?_
         rotate_left
         ·intro w' hSw; obtain ⟨hx5, sj1, sj6⟩ := hSw; have s1 := (hx5.out 1 _ f1.out).1; have s6 := (hx5.out 6 _ f6.out).1; clear hx5; go_simp; try with_reducible rfl
         simp only [Act.put, zA, zB, zC]
         refine tk13 (v := ?_) (by kernel_rfl) (by kernel_rfl) (by kernel_rfl) (fun _ _ _ h => h) (Or.inl ⟨by first | rfl | (simp [Region.wanted, yielded]; done), ?_⟩) hS ?_
         rotate_left
         ·intro w' hSw; obtain ⟨hx5, sj1, sj6⟩ := hSw; have s1 := (hx5.out 1 _ f1.out).1; have s6 := (hx5.out 6 _ f6.out).1; clear hx5; go_simp; try with_reducible rfl
         simp only [Act.put, zA, zB, zC]
         refine tk14 (v := ?_) (by kernel_rfl) (by kernel_rfl) (by kernel_rfl) (fun _ _ _ h => h) (Or.inl ⟨by first | rfl | (simp [Region.wanted, yielded]; done), ?_⟩) hS ?_
         rotate_left
         ·intro w' hSw; obtain ⟨hx5, sj1, sj6⟩ := hSw; have s1 := (hx5.out 1 _ f1.out).1; have s6 := (hx5.out 6 _ f6.out).1; clear hx5; go_simp; try with_reducible rfl
         simp only [Act.put, zA, zB, zC]
         refine tk15 (v := ?_) (by kernel_rfl) (by kernel_rfl) (by kernel_rfl) (fun _ _ _ h => h) (Or.inl ⟨by first | rfl | (simp [Region.wanted, yielded]; done), ?_⟩) hS ?_
         rotate_left
         ·intro w' hSw; obtain ⟨hx5, sj1, sj6⟩ := hSw; have s1 := (hx5.out 1 _ f1.out).1; have s6 := (hx5.out 6 _ f6.out).1; clear hx5; go_simp; try with_reducible rfl
         simp only [Act.put, zA, zB, zC]
         refine tk16 (v := ?_) (by kernel_rfl) (by kernel_rfl) (by kernel_rfl) (fun _ _ _ h => h) (Or.inl ⟨by first | rfl | (simp [Region.wanted, yielded]; done), ?_⟩) hS ?_
         rotate_left
         ·intro w' hSw; obtain ⟨hx5, sj1, sj6⟩ := hSw; have s1 := (hx5.out 1 _ f1.out).1; have s6 := (hx5.out 6 _ f6.out).1; clear hx5; go_simp; try with_reducible rfl
         simp only [Act.put, zA, zB, zC]
         refine tk17 (v := ?_) (by kernel_rfl) (by kernel_rfl) (by kernel_rfl) (fun _ _ _ h => h) (Or.inl ⟨by first | rfl | (simp [Region.wanted, yielded]; done), ?_⟩) hS ?_
         rotate_left
         ·intro w' hSw; obtain ⟨hx5, sj1, sj6⟩ := hSw; have s1 := (hx5.out 1 _ f1.out).1; have s6 := (hx5.out 6 _ f6.out).1; clear hx5; go_simp; try with_reducible rfl
         simp only [Act.put, zA, zB, zC]
         refine tk18 (v := ?_) (by kernel_rfl) (by kernel_rfl) (by kernel_rfl) (fun _ _ _ h => h) (Or.inl ⟨by first | rfl | (simp [Region.wanted, yielded]; done), ?_⟩) hS ?_
         rotate_left
         ·intro w' hSw; obtain ⟨hx5, sj1, sj6⟩ := hSw; have s1 := (hx5.out 1 _ f1.out).1; have s6 := (hx5.out 6 _ f6.out).1; clear hx5; go_simp; try with_reducible rfl
         simp only [Act.put, zA, zB, zC]
         refine tk19 (v := .bool false) (by kernel_rfl) (by kernel_rfl) (by kernel_rfl) (fun _ _ _ h => h) (Or.inl ⟨by first | rfl | (simp [Region.wanted, yielded]; done), ?_⟩) hS ?_
         ·intro w' hSw
          clear hSw; go_simp; first | done | with_reducible rfl | (simp_all; done) | trace_state
         simp only [Act.put, zA, zB, zC]
         refine tk20 (v := ?_) (by kernel_rfl) (by kernel_rfl) (by kernel_rfl) (fun _ _ _ h => h) (Or.inl ⟨by first | rfl | (simp [Region.wanted, yielded]; done), ?_⟩) hS ?_
         rotate_left
         ·intro w' hSw; obtain ⟨hx5, sj1, sj6⟩ := hSw; have s1 := (hx5.out 1 _ f1.out).1; have s6 := (hx5.out 6 _ f6.out).1; clear hx5; go_simp; try with_reducible rfl
         simp only [Act.put, zA, zB, zC]
         refine tk21 (v := ?_) (by kernel_rfl) (by kernel_rfl) (by kernel_rfl) (fun _ _ _ h => h) (Or.inl ⟨by first | rfl | (simp [Region.wanted, yielded]; done), ?_⟩) hS ?_
         rotate_left
         ·intro w' hSw; obtain ⟨hx5, sj1, sj6⟩ := hSw; have s1 := (hx5.out 1 _ f1.out).1; have s6 := (hx5.out 6 _ f6.out).1; clear hx5; go_simp; try with_reducible rfl
         simp only [Act.put, zA, zB, zC]
         refine tk22 (v := ?_) (by kernel_rfl) (by kernel_rfl) (by kernel_rfl) (fun _ _ _ h => h) (Or.inl ⟨by first | rfl | (simp [Region.wanted, yielded]; done), ?_⟩) hS ?_
         rotate_left
         ·intro w' hSw; obtain ⟨hx5, sj1, sj6⟩ := hSw; have s1 := (hx5.out 1 _ f1.out).1; have s6 := (hx5.out 6 _ f6.out).1; clear hx5; go_simp; try with_reducible rfl
         simp only [Act.put, zA, zB, zC]
         refine tk23 (v := ?_) (by kernel_rfl) (by kernel_rfl) (by kernel_rfl) (fun _ _ _ h => h) (Or.inl ⟨by first | rfl | (simp [Region.wanted, yielded]; done), ?_⟩) hS ?_
         rotate_left
         ·intro w' hSw; obtain ⟨hx5, sj1, sj6⟩ := hSw; have s1 := (hx5.out 1 _ f1.out).1; have s6 := (hx5.out 6 _ f6.out).1; clear hx5; go_simp; try with_reducible rfl
         simp only [Act.put, zA, zB, zC]
         refine tk24 (v := ?_) (by kernel_rfl) (by kernel_rfl) (by kernel_rfl) (fun _ _ _ h => h) (Or.inl ⟨by first | rfl | (simp [Region.wanted, yielded]; done), ?_⟩) hS ?_
         rotate_left
         ·intro w' hSw; obtain ⟨hx5, sj1, sj6⟩ := hSw; have s1 := (hx5.out 1 _ f1.out).1; have s6 := (hx5.out 6 _ f6.out).1; clear hx5; go_simp; try with_reducible rfl
         simp only [Act.put, zA, zB, zC]
         refine tk25 (v := ?_) (by kernel_rfl) (by kernel_rfl) (by kernel_rfl) (fun _ _ _ h => h) (Or.inl ⟨by first | rfl | (simp [Region.wanted, yielded]; done), ?_⟩) hS ?_
         rotate_left
         ·intro w' hSw; obtain ⟨hx5, sj1, sj6⟩ := hSw; have s1 := (hx5.out 1 _ f1.out).1; have s6 := (hx5.out 6 _ f6.out).1; clear hx5; go_simp; try with_reducible rfl
         simp only [Act.put, zA, zB, zC]
         refine tk26 (v := ?_) (by kernel_rfl) (by kernel_rfl) (by kernel_rfl) (fun _ _ _ h => h) (Or.inl ⟨by first | rfl | (simp [Region.wanted, yielded]; done), ?_⟩) hS ?_
         rotate_left
         ·intro w' hSw; obtain ⟨hx5, sj1, sj6⟩ := hSw; have s1 := (hx5.out 1 _ f1.out).1; have s6 := (hx5.out 6 _ f6.out).1; clear hx5; go_simp; try with_reducible rfl
         simp only [Act.put, zA, zB, zC]
         refine tk27 (v := ?_) (by kernel_rfl) (by kernel_rfl) (by kernel_rfl) (fun _ _ _ h => h) (Or.inl ⟨by first | rfl | (simp [Region.wanted, yielded]; done), ?_⟩) hS ?_
         rotate_left
         ·intro w' hSw; obtain ⟨hx5, sj1, sj6⟩ := hSw; have s1 := (hx5.out 1 _ f1.out).1; have s6 := (hx5.out 6 _ f6.out).1; clear hx5; go_simp; try with_reducible rfl
         simp only [Act.put, zA, zB, zC]
         refine tk28 (v := .bool false) (by kernel_rfl) (by kernel_rfl) (by kernel_rfl) (fun _ _ _ h => h) (Or.inl ⟨by first | rfl | (simp [Region.wanted, yielded]; done), ?_⟩) hS ?_
         ·intro w' hSw
          clear hSw; go_simp; first | done | with_reducible rfl | (simp_all; done) | trace_state
         simp only [Act.put, zA, zB, zC]
         refine tk29 (v := ?_) (by kernel_rfl) (by kernel_rfl) (by kernel_rfl) (fun _ _ _ h => h) (Or.inl ⟨by first | rfl | (simp [Region.wanted, yielded]; done), ?_⟩) hS ?_
         rotate_left
         ·intro w' hSw; obtain ⟨hx5, sj1, sj6⟩ := hSw; have s1 := (hx5.out 1 _ f1.out).1; have s6 := (hx5.out 6 _ f6.out).1; clear hx5; go_simp; try with_reducible rfl
         simp only [Act.put, zA, zB, zC]
         refine tk30 (v := ?_) (by kernel_rfl) (by kernel_rfl) (by kernel_rfl) (fun _ _ _ h => h) (Or.inl ⟨by first | rfl | (simp [Region.wanted, yielded]; done), ?_⟩) hS ?_
         rotate_left
         ·intro w' hSw; obtain ⟨hx5, sj1, sj6⟩ := hSw; have s1 := (hx5.out 1 _ f1.out).1; have s6 := (hx5.out 6 _ f6.out).1; clear hx5; go_simp; try with_reducible rfl
         simp only [Act.put, zA, zB, zC]
         refine tk31 (v := ?_) (by kernel_rfl) (by kernel_rfl) (by kernel_rfl) (fun _ _ _ h => h) (Or.inl ⟨by first | rfl | (simp [Region.wanted, yielded]; done), ?_⟩) hS ?_
         rotate_left
         ·intro w' hSw; obtain ⟨hx5, sj1, sj6⟩ := hSw; have s1 := (hx5.out 1 _ f1.out).1; have s6 := (hx5.out 6 _ f6.out).1; clear hx5; go_simp; try with_reducible rfl
         simp only [Act.put, zA, zB, zC]
         refine wpAnyH_done (by kernel_rfl) ?_ _
         clear hS
         go_wp2_with fail
         go_ret
         exact ⟨ret_int HR5.out.symm, BB2.out⟩
        ·have HR5 : Hid (R = 6) := by show _ = _; rw [HR4.out, if_neg (fun h => hkj h.2)]
         have hkn : r.known < kj := by omega
         clear hvj hiv
         go_wp2_with fail
         have hb := (Below.refl V.heap.size V).drew
         have BB2 := Lib.hid (BB.out.trans (hb.mono BB.out.size))
         have hS : Hid (BoxL V.drew w.heap.size l) ∧ V.drew.cell? ⟨br, orr + j * 28 + 1, none⟩ = some (.int .i64 vj) ∧ V.drew.cell? ⟨br, orr + j * 28 + 6, none⟩ = some (.int .i64 kj) := ⟨Lib.hid (X5.out.bel hpl hb), (hb.cell (World.block_lt_of_cell? _ _ zj1)).trans zj1, (hb.cell (World.block_lt_of_cell? _ _ zj6)).trans zj6⟩
         refine wp_region_held (S := fun w' : World => Hid (BoxL w' w.heap.size l) ∧ w'.cell? ⟨br, orr + j * 28 + 1, none⟩ = some (.int .i64 vj) ∧ w'.cell? ⟨br, orr + j * 28 + 6, none⟩ = some (.int .i64 kj)) mixed ?_
         change wpAnyH _ _ _ _ _ _ _ _ V.drew
         clear hb
         generalize V.drew = U9 at *
         refine tk0 (v := ?_) (by kernel_rfl) (by kernel_rfl) (by kernel_rfl) (fun _ _ _ h => h) (Or.inl ⟨by first | rfl | (simp [Region.wanted, yielded]; done), ?_⟩) hS ?_
         rotate_left
         ·intro w' hSw; obtain ⟨hx5, sj1, sj6⟩ := hSw; have s1 := (hx5.out 1 _ f1.out).1; have s6 := (hx5.out 6 _ f6.out).1; clear hx5; go_simp; try with_reducible rfl
         simp only [Act.put, zA, zB, zC]
         refine tk1 (v := .bool false) (by kernel_rfl) (by kernel_rfl) (by kernel_rfl) (fun _ _ _ h => h) (Or.inl ⟨by first | rfl | (simp [Region.wanted, yielded]; done), ?_⟩) hS ?_
         ·intro w' hSw
          clear hSw; go_simp; first | done | with_reducible rfl | (simp_all; done) | trace_state
         simp only [Act.put, zA, zB, zC]
         refine tk2 (v := ?_) (by kernel_rfl) (by kernel_rfl) (by kernel_rfl) (fun _ _ _ h => h) (Or.inl ⟨by first | rfl | (simp [Region.wanted, yielded]; done), ?_⟩) hS ?_
         rotate_left
         ·intro w' hSw; obtain ⟨hx5, sj1, sj6⟩ := hSw; have s1 := (hx5.out 1 _ f1.out).1; have s6 := (hx5.out 6 _ f6.out).1; clear hx5; go_simp; try with_reducible rfl
         simp only [Act.put, zA, zB, zC]
         refine tk3 (v := undef) (by kernel_rfl) (by kernel_rfl) (by kernel_rfl) (fun _ _ _ h => h) (Or.inr ⟨by rfl, rfl⟩) hS ?_
         simp only [Act.put, zA, zB, zC]
         refine tk4 (v := undef) (by kernel_rfl) (by kernel_rfl) (by kernel_rfl) (fun _ _ _ h => h) (Or.inr ⟨by rfl, rfl⟩) hS ?_
         simp only [Act.put, zA, zB, zC]
         refine tk5 (v := undef) (by kernel_rfl) (by kernel_rfl) (by kernel_rfl) (fun _ _ _ h => h) (Or.inr ⟨by rfl, rfl⟩) hS ?_
         simp only [Act.put, zA, zB, zC]
         refine tk6 (v := ?_) (by kernel_rfl) (by kernel_rfl) (by kernel_rfl) (fun _ _ _ h => h) (Or.inl ⟨by first | rfl | (simp [Region.wanted, yielded]; done), ?_⟩) hS ?_
         rotate_left
         ·intro w' hSw; obtain ⟨hx5, sj1, sj6⟩ := hSw; have s1 := (hx5.out 1 _ f1.out).1; have s6 := (hx5.out 6 _ f6.out).1; clear hx5; go_simp; try with_reducible rfl
         simp only [Act.put, zA, zB, zC]
         refine tk7 (v := ?_) (by kernel_rfl) (by kernel_rfl) (by kernel_rfl) (fun _ _ _ h => h) (Or.inl ⟨by first | rfl | (simp [Region.wanted, yielded]; done), ?_⟩) hS ?_
         rotate_left
         ·intro w' hSw; obtain ⟨hx5, sj1, sj6⟩ := hSw; have s1 := (hx5.out 1 _ f1.out).1; have s6 := (hx5.out 6 _ f6.out).1; clear hx5; go_simp; try with_reducible rfl
         simp only [Act.put, zA, zB, zC]
         refine tk8 (v := ?_) (by kernel_rfl) (by kernel_rfl) (by kernel_rfl) (fun _ _ _ h => h) (Or.inl ⟨by first | rfl | (simp [Region.wanted, yielded]; done), ?_⟩) hS ?_
         rotate_left
         ·intro w' hSw; obtain ⟨hx5, sj1, sj6⟩ := hSw; have s1 := (hx5.out 1 _ f1.out).1; have s6 := (hx5.out 6 _ f6.out).1; clear hx5; go_simp; try with_reducible rfl
         simp only [Act.put, zA, zB, zC]
         refine tk9 (v := .bool true) (by kernel_rfl) (by kernel_rfl) (by kernel_rfl) (fun _ _ _ h => h) (Or.inl ⟨by first | rfl | (simp [Region.wanted, yielded]; done), ?_⟩) hS ?_
         ·intro w' hSw
          clear hSw; go_simp; first | done | with_reducible rfl | (simp_all; done) | trace_state
         simp only [Act.put, zA, zB, zC]
         refine tk10 (v := ?_) (by kernel_rfl) (by kernel_rfl) (by kernel_rfl) (fun _ _ _ h => h) (Or.inl ⟨by first | rfl | (simp [Region.wanted, yielded]; done), ?_⟩) hS ?_
         rotate_left
         ·intro w' hSw; obtain ⟨hx5, sj1, sj6⟩ := hSw; have s1 := (hx5.out 1 _ f1.out).1; have s6 := (hx5.out 6 _ f6.out).1; clear hx5; go_simp; try with_reducible rfl
         simp only [Act.put, zA, zB, zC]
         refine tk11 (v := ?_) (by kernel_rfl) (by kernel_rfl) (by kernel_rfl) (fun _ _ _ h => h) (Or.inl ⟨by first | rfl | (simp [Region.wanted, yielded]; done), ?_⟩) hS ?_
         rotate_left
         ·intro w' hSw; obtain ⟨hx5, sj1, sj6⟩ := hSw; have s1 := (hx5.out 1 _ f1.out).1; have s6 := (hx5.out 6 _ f6.out).1; clear hx5; go_simp; try with_reducible rfl
         simp only [Act.put, zA, zB, zC]
         refine tk12 (v := ?_) (by kernel_rfl) (by kernel_rfl) (by kernel_rfl) (fun _ _ _ h => h) (Or.inl ⟨by first | rfl | (simp [Region.wanted, yielded]; done), ?_⟩) hS ?_
         rotate_left
         ·intro w' hSw; obtain ⟨hx5, sj1, sj6⟩ := hSw; have s1 := (hx5.out 1 _ f1.out).1; have s6 := (hx5.out 6 _ f6.out).1; clear hx5; go_simp; try with_reducible rfl
         simp only [Act.put, zA, zB, zC]
         refine tk13 (v := ?_) (by kernel_rfl) (by kernel_rfl) (by kernel_rfl) (fun _ _ _ h => h) (Or.inl ⟨by first | rfl | (simp [Region.wanted, yielded]; done), ?_⟩) hS ?_
         rotate_left
         ·intro w' hSw; obtain ⟨hx5, sj1, sj6⟩ := hSw; have s1 := (hx5.out 1 _ f1.out).1; have s6 := (hx5.out 6 _ f6.out).1; clear hx5; go_simp; try with_reducible rfl
         simp only [Act.put, zA, zB, zC]
         refine tk14 (v := ?_) (by kernel_rfl) (by kernel_rfl) (by kernel_rfl) (fun _ _ _ h => h) (Or.inl ⟨by first | rfl | (simp [Region.wanted, yielded]; done), ?_⟩) hS ?_
         rotate_left
         ·intro w' hSw; obtain ⟨hx5, sj1, sj6⟩ := hSw; have s1 := (hx5.out 1 _ f1.out).1; have s6 := (hx5.out 6 _ f6.out).1; clear hx5; go_simp; try with_reducible rfl
         simp only [Act.put, zA, zB, zC]
         refine tk15 (v := ?_) (by kernel_rfl) (by kernel_rfl) (by kernel_rfl) (fun _ _ _ h => h) (Or.inl ⟨by first | rfl | (simp [Region.wanted, yielded]; done), ?_⟩) hS ?_
         rotate_left
         ·intro w' hSw; obtain ⟨hx5, sj1, sj6⟩ := hSw; have s1 := (hx5.out 1 _ f1.out).1; have s6 := (hx5.out 6 _ f6.out).1; clear hx5; go_simp; try with_reducible rfl
         simp only [Act.put, zA, zB, zC]
         refine tk16 (v := ?_) (by kernel_rfl) (by kernel_rfl) (by kernel_rfl) (fun _ _ _ h => h) (Or.inl ⟨by first | rfl | (simp [Region.wanted, yielded]; done), ?_⟩) hS ?_
         rotate_left
         ·intro w' hSw; obtain ⟨hx5, sj1, sj6⟩ := hSw; have s1 := (hx5.out 1 _ f1.out).1; have s6 := (hx5.out 6 _ f6.out).1; clear hx5; go_simp; try with_reducible rfl
         simp only [Act.put, zA, zB, zC]
         refine tk17 (v := ?_) (by kernel_rfl) (by kernel_rfl) (by kernel_rfl) (fun _ _ _ h => h) (Or.inl ⟨by first | rfl | (simp [Region.wanted, yielded]; done), ?_⟩) hS ?_
         rotate_left
         ·intro w' hSw; obtain ⟨hx5, sj1, sj6⟩ := hSw; have s1 := (hx5.out 1 _ f1.out).1; have s6 := (hx5.out 6 _ f6.out).1; clear hx5; go_simp; try with_reducible rfl
         simp only [Act.put, zA, zB, zC]
         refine tk18 (v := ?_) (by kernel_rfl) (by kernel_rfl) (by kernel_rfl) (fun _ _ _ h => h) (Or.inl ⟨by first | rfl | (simp [Region.wanted, yielded]; done), ?_⟩) hS ?_
         rotate_left
         ·intro w' hSw; obtain ⟨hx5, sj1, sj6⟩ := hSw; have s1 := (hx5.out 1 _ f1.out).1; have s6 := (hx5.out 6 _ f6.out).1; clear hx5; go_simp; try with_reducible rfl
         simp only [Act.put, zA, zB, zC]
         refine tk19 (v := .bool false) (by kernel_rfl) (by kernel_rfl) (by kernel_rfl) (fun _ _ _ h => h) (Or.inl ⟨by first | rfl | (simp [Region.wanted, yielded]; done), ?_⟩) hS ?_
         ·intro w' hSw
          clear hSw; go_simp; first | done | with_reducible rfl | (simp_all; done) | trace_state
         simp only [Act.put, zA, zB, zC]
         refine tk20 (v := ?_) (by kernel_rfl) (by kernel_rfl) (by kernel_rfl) (fun _ _ _ h => h) (Or.inl ⟨by first | rfl | (simp [Region.wanted, yielded]; done), ?_⟩) hS ?_
         rotate_left
         ·intro w' hSw; obtain ⟨hx5, sj1, sj6⟩ := hSw; have s1 := (hx5.out 1 _ f1.out).1; have s6 := (hx5.out 6 _ f6.out).1; clear hx5; go_simp; try with_reducible rfl
         simp only [Act.put, zA, zB, zC]
         refine tk21 (v := ?_) (by kernel_rfl) (by kernel_rfl) (by kernel_rfl) (fun _ _ _ h => h) (Or.inl ⟨by first | rfl | (simp [Region.wanted, yielded]; done), ?_⟩) hS ?_
         rotate_left
         ·intro w' hSw; obtain ⟨hx5, sj1, sj6⟩ := hSw; have s1 := (hx5.out 1 _ f1.out).1; have s6 := (hx5.out 6 _ f6.out).1; clear hx5; go_simp; try with_reducible rfl
         simp only [Act.put, zA, zB, zC]
         refine tk22 (v := ?_) (by kernel_rfl) (by kernel_rfl) (by kernel_rfl) (fun _ _ _ h => h) (Or.inl ⟨by first | rfl | (simp [Region.wanted, yielded]; done), ?_⟩) hS ?_
         rotate_left
         ·intro w' hSw; obtain ⟨hx5, sj1, sj6⟩ := hSw; have s1 := (hx5.out 1 _ f1.out).1; have s6 := (hx5.out 6 _ f6.out).1; clear hx5; go_simp; try with_reducible rfl
         simp only [Act.put, zA, zB, zC]
         refine tk23 (v := ?_) (by kernel_rfl) (by kernel_rfl) (by kernel_rfl) (fun _ _ _ h => h) (Or.inl ⟨by first | rfl | (simp [Region.wanted, yielded]; done), ?_⟩) hS ?_
         rotate_left
         ·intro w' hSw; obtain ⟨hx5, sj1, sj6⟩ := hSw; have s1 := (hx5.out 1 _ f1.out).1; have s6 := (hx5.out 6 _ f6.out).1; clear hx5; go_simp; try with_reducible rfl
         simp only [Act.put, zA, zB, zC]
         refine tk24 (v := ?_) (by kernel_rfl) (by kernel_rfl) (by kernel_rfl) (fun _ _ _ h => h) (Or.inl ⟨by first | rfl | (simp [Region.wanted, yielded]; done), ?_⟩) hS ?_
         rotate_left
         ·intro w' hSw; obtain ⟨hx5, sj1, sj6⟩ := hSw; have s1 := (hx5.out 1 _ f1.out).1; have s6 := (hx5.out 6 _ f6.out).1; clear hx5; go_simp; try with_reducible rfl
         simp only [Act.put, zA, zB, zC]
         refine tk25 (v := ?_) (by kernel_rfl) (by kernel_rfl) (by kernel_rfl) (fun _ _ _ h => h) (Or.inl ⟨by first | rfl | (simp [Region.wanted, yielded]; done), ?_⟩) hS ?_
         rotate_left
         ·intro w' hSw; obtain ⟨hx5, sj1, sj6⟩ := hSw; have s1 := (hx5.out 1 _ f1.out).1; have s6 := (hx5.out 6 _ f6.out).1; clear hx5; go_simp; try with_reducible rfl
         simp only [Act.put, zA, zB, zC]
         refine tk26 (v := ?_) (by kernel_rfl) (by kernel_rfl) (by kernel_rfl) (fun _ _ _ h => h) (Or.inl ⟨by first | rfl | (simp [Region.wanted, yielded]; done), ?_⟩) hS ?_
         rotate_left
         ·intro w' hSw; obtain ⟨hx5, sj1, sj6⟩ := hSw; have s1 := (hx5.out 1 _ f1.out).1; have s6 := (hx5.out 6 _ f6.out).1; clear hx5; go_simp; try with_reducible rfl
         simp only [Act.put, zA, zB, zC]
         refine tk27 (v := ?_) (by kernel_rfl) (by kernel_rfl) (by kernel_rfl) (fun _ _ _ h => h) (Or.inl ⟨by first | rfl | (simp [Region.wanted, yielded]; done), ?_⟩) hS ?_
         rotate_left
         ·intro w' hSw; obtain ⟨hx5, sj1, sj6⟩ := hSw; have s1 := (hx5.out 1 _ f1.out).1; have s6 := (hx5.out 6 _ f6.out).1; clear hx5; go_simp; try with_reducible rfl
         simp only [Act.put, zA, zB, zC]
         refine tk28 (v := .bool true) (by kernel_rfl) (by kernel_rfl) (by kernel_rfl) (fun _ _ _ h => h) (Or.inl ⟨by first | rfl | (simp [Region.wanted, yielded]; done), ?_⟩) hS ?_
         ·intro w' hSw
          clear hSw; go_simp; first | done | with_reducible rfl | (simp_all; done) | trace_state
         simp only [Act.put, zA, zB, zC]
         refine tk29 (v := ?_) (by kernel_rfl) (by kernel_rfl) (by kernel_rfl) (fun _ _ _ h => h) (Or.inl ⟨by first | rfl | (simp [Region.wanted, yielded]; done), ?_⟩) hS ?_
         rotate_left
         ·intro w' hSw; obtain ⟨hx5, sj1, sj6⟩ := hSw; have s1 := (hx5.out 1 _ f1.out).1; have s6 := (hx5.out 6 _ f6.out).1; clear hx5; go_simp; try with_reducible rfl
         simp only [Act.put, zA, zB, zC]
         refine tk30 (v := ?_) (by kernel_rfl) (by kernel_rfl) (by kernel_rfl) (fun _ _ _ h => h) (Or.inl ⟨by first | rfl | (simp [Region.wanted, yielded]; done), ?_⟩) hS ?_
         rotate_left
         ·intro w' hSw; obtain ⟨hx5, sj1, sj6⟩ := hSw; have s1 := (hx5.out 1 _ f1.out).1; have s6 := (hx5.out 6 _ f6.out).1; clear hx5; go_simp; try with_reducible rfl
         simp only [Act.put, zA, zB, zC]
         refine tk31 (v := ?_) (by kernel_rfl) (by kernel_rfl) (by kernel_rfl) (fun _ _ _ h => h) (Or.inl ⟨by first | rfl | (simp [Region.wanted, yielded]; done), ?_⟩) hS ?_
         rotate_left
         ·intro w' hSw; obtain ⟨hx5, sj1, sj6⟩ := hSw; have s1 := (hx5.out 1 _ f1.out).1; have s6 := (hx5.out 6 _ f6.out).1; clear hx5; go_simp; try with_reducible rfl
         simp only [Act.put, zA, zB, zC]
         refine wpAnyH_done (by kernel_rfl) ?_ _
         clear hS
         go_wp2_with fail
         go_ret
         exact ⟨ret_int HR5.out.symm, BB2.out⟩
       ·have hwv := wrap_ver hiv (by omega) hvj
        have HR5 : Hid (R = 6) := by show _ = _; rw [HR4.out, if_neg (fun h => hvj h.1)]
        clear hvj hiv
        go_wp2_with fail
        have hb := (Below.refl V.heap.size V).drew
        have BB2 := Lib.hid (BB.out.trans (hb.mono BB.out.size))
        have hS : Hid (BoxL V.drew w.heap.size l) ∧ V.drew.cell? ⟨br, orr + j * 28 + 1, none⟩ = some (.int .i64 vj) ∧ V.drew.cell? ⟨br, orr + j * 28 + 6, none⟩ = some (.int .i64 kj) := ⟨Lib.hid (X5.out.bel hpl hb), (hb.cell (World.block_lt_of_cell? _ _ zj1)).trans zj1, (hb.cell (World.block_lt_of_cell? _ _ zj6)).trans zj6⟩
        refine wp_region_held (S := fun w' : World => Hid (BoxL w' w.heap.size l) ∧ w'.cell? ⟨br, orr + j * 28 + 1, none⟩ = some (.int .i64 vj) ∧ w'.cell? ⟨br, orr + j * 28 + 6, none⟩ = some (.int .i64 kj)) mixed ?_
        change wpAnyH _ _ _ _ _ _ _ _ V.drew
        clear hb
        generalize V.drew = U9 at *
        refine tk0 (v := ?_) (by kernel_rfl) (by kernel_rfl) (by kernel_rfl) (fun _ _ _ h => h) (Or.inl ⟨by first | rfl | (simp [Region.wanted, yielded]; done), ?_⟩) hS ?_
        rotate_left
        ·intro w' hSw; obtain ⟨hx5, sj1, sj6⟩ := hSw; have s1 := (hx5.out 1 _ f1.out).1; have s6 := (hx5.out 6 _ f6.out).1; clear hx5; go_simp; try with_reducible rfl
        simp only [Act.put, zA, zB, zC]
        refine tk1 (v := .bool false) (by kernel_rfl) (by kernel_rfl) (by kernel_rfl) (fun _ _ _ h => h) (Or.inl ⟨by first | rfl | (simp [Region.wanted, yielded]; done), ?_⟩) hS ?_
        ·intro w' hSw
         clear hSw; go_simp; first | done | with_reducible rfl | exact hwv | (simp_all; done) | trace_state
        simp only [Act.put, zA, zB, zC]
        refine tk2 (v := ?_) (by kernel_rfl) (by kernel_rfl) (by kernel_rfl) (fun _ _ _ h => h) (Or.inl ⟨by first | rfl | (simp [Region.wanted, yielded]; done), ?_⟩) hS ?_
        rotate_left
        ·intro w' hSw; obtain ⟨hx5, sj1, sj6⟩ := hSw; have s1 := (hx5.out 1 _ f1.out).1; have s6 := (hx5.out 6 _ f6.out).1; clear hx5; go_simp; try with_reducible rfl
        simp only [Act.put, zA, zB, zC]
        refine tk3 (v := undef) (by kernel_rfl) (by kernel_rfl) (by kernel_rfl) (fun _ _ _ h => h) (Or.inr ⟨by rfl, rfl⟩) hS ?_
        simp only [Act.put, zA, zB, zC]
        refine tk4 (v := undef) (by kernel_rfl) (by kernel_rfl) (by kernel_rfl) (fun _ _ _ h => h) (Or.inr ⟨by rfl, rfl⟩) hS ?_
        simp only [Act.put, zA, zB, zC]
        refine tk5 (v := undef) (by kernel_rfl) (by kernel_rfl) (by kernel_rfl) (fun _ _ _ h => h) (Or.inr ⟨by rfl, rfl⟩) hS ?_
        simp only [Act.put, zA, zB, zC]
        refine tk6 (v := ?_) (by kernel_rfl) (by kernel_rfl) (by kernel_rfl) (fun _ _ _ h => h) (Or.inl ⟨by first | rfl | (simp [Region.wanted, yielded]; done), ?_⟩) hS ?_
        rotate_left
        ·intro w' hSw; obtain ⟨hx5, sj1, sj6⟩ := hSw; have s1 := (hx5.out 1 _ f1.out).1; have s6 := (hx5.out 6 _ f6.out).1; clear hx5; go_simp; try with_reducible rfl
        simp only [Act.put, zA, zB, zC]
        refine tk7 (v := ?_) (by kernel_rfl) (by kernel_rfl) (by kernel_rfl) (fun _ _ _ h => h) (Or.inl ⟨by first | rfl | (simp [Region.wanted, yielded]; done), ?_⟩) hS ?_
        rotate_left
        ·intro w' hSw; obtain ⟨hx5, sj1, sj6⟩ := hSw; have s1 := (hx5.out 1 _ f1.out).1; have s6 := (hx5.out 6 _ f6.out).1; clear hx5; go_simp; try with_reducible rfl
        simp only [Act.put, zA, zB, zC]
        refine tk8 (v := ?_) (by kernel_rfl) (by kernel_rfl) (by kernel_rfl) (fun _ _ _ h => h) (Or.inl ⟨by first | rfl | (simp [Region.wanted, yielded]; done), ?_⟩) hS ?_
        rotate_left
        ·intro w' hSw; obtain ⟨hx5, sj1, sj6⟩ := hSw; have s1 := (hx5.out 1 _ f1.out).1; have s6 := (hx5.out 6 _ f6.out).1; clear hx5; go_simp; try with_reducible rfl
        simp only [Act.put, zA, zB, zC]
        refine tk9 (v := .bool true) (by kernel_rfl) (by kernel_rfl) (by kernel_rfl) (fun _ _ _ h => h) (Or.inl ⟨by first | rfl | (simp [Region.wanted, yielded]; done), ?_⟩) hS ?_
        ·intro w' hSw
         clear hSw; go_simp; first | done | with_reducible rfl | exact hwv | (simp_all; done) | trace_state
        simp only [Act.put, zA, zB, zC]
        refine tk10 (v := ?_) (by kernel_rfl) (by kernel_rfl) (by kernel_rfl) (fun _ _ _ h => h) (Or.inl ⟨by first | rfl | (simp [Region.wanted, yielded]; done), ?_⟩) hS ?_
        rotate_left
        ·intro w' hSw; obtain ⟨hx5, sj1, sj6⟩ := hSw; have s1 := (hx5.out 1 _ f1.out).1; have s6 := (hx5.out 6 _ f6.out).1; clear hx5; go_simp; try with_reducible rfl
        simp only [Act.put, zA, zB, zC]
        refine tk11 (v := ?_) (by kernel_rfl) (by kernel_rfl) (by kernel_rfl) (fun _ _ _ h => h) (Or.inl ⟨by first | rfl | (simp [Region.wanted, yielded]; done), ?_⟩) hS ?_
        rotate_left
        ·intro w' hSw; obtain ⟨hx5, sj1, sj6⟩ := hSw; have s1 := (hx5.out 1 _ f1.out).1; have s6 := (hx5.out 6 _ f6.out).1; clear hx5; go_simp; try with_reducible rfl
        simp only [Act.put, zA, zB, zC]
        refine tk12 (v := ?_) (by kernel_rfl) (by kernel_rfl) (by kernel_rfl) (fun _ _ _ h => h) (Or.inl ⟨by first | rfl | (simp [Region.wanted, yielded]; done), ?_⟩) hS ?_
        rotate_left
        ·intro w' hSw; obtain ⟨hx5, sj1, sj6⟩ := hSw; have s1 := (hx5.out 1 _ f1.out).1; have s6 := (hx5.out 6 _ f6.out).1; clear hx5; go_simp; try with_reducible rfl
        simp only [Act.put, zA, zB, zC]
        refine tk13 (v := ?_) (by kernel_rfl) (by kernel_rfl) (by kernel_rfl) (fun _ _ _ h => h) (Or.inl ⟨by first | rfl | (simp [Region.wanted, yielded]; done), ?_⟩) hS ?_
        rotate_left
        ·intro w' hSw; obtain ⟨hx5, sj1, sj6⟩ := hSw; have s1 := (hx5.out 1 _ f1.out).1; have s6 := (hx5.out 6 _ f6.out).1; clear hx5; go_simp; try with_reducible rfl
        simp only [Act.put, zA, zB, zC]
        refine tk14 (v := ?_) (by kernel_rfl) (by kernel_rfl) (by kernel_rfl) (fun _ _ _ h => h) (Or.inl ⟨by first | rfl | (simp [Region.wanted, yielded]; done), ?_⟩) hS ?_
        rotate_left
        ·intro w' hSw; obtain ⟨hx5, sj1, sj6⟩ := hSw; have s1 := (hx5.out 1 _ f1.out).1; have s6 := (hx5.out 6 _ f6.out).1; clear hx5; go_simp; try with_reducible rfl
        simp only [Act.put, zA, zB, zC]
        refine tk15 (v := ?_) (by kernel_rfl) (by kernel_rfl) (by kernel_rfl) (fun _ _ _ h => h) (Or.inl ⟨by first | rfl | (simp [Region.wanted, yielded]; done), ?_⟩) hS ?_
        rotate_left
        ·intro w' hSw; obtain ⟨hx5, sj1, sj6⟩ := hSw; have s1 := (hx5.out 1 _ f1.out).1; have s6 := (hx5.out 6 _ f6.out).1; clear hx5; go_simp; try with_reducible rfl
        simp only [Act.put, zA, zB, zC]
        refine tk16 (v := ?_) (by kernel_rfl) (by kernel_rfl) (by kernel_rfl) (fun _ _ _ h => h) (Or.inl ⟨by first | rfl | (simp [Region.wanted, yielded]; done), ?_⟩) hS ?_
        rotate_left
        ·intro w' hSw; obtain ⟨hx5, sj1, sj6⟩ := hSw; have s1 := (hx5.out 1 _ f1.out).1; have s6 := (hx5.out 6 _ f6.out).1; clear hx5; go_simp; try with_reducible rfl
        simp only [Act.put, zA, zB, zC]
        refine tk17 (v := ?_) (by kernel_rfl) (by kernel_rfl) (by kernel_rfl) (fun _ _ _ h => h) (Or.inl ⟨by first | rfl | (simp [Region.wanted, yielded]; done), ?_⟩) hS ?_
        rotate_left
        ·intro w' hSw; obtain ⟨hx5, sj1, sj6⟩ := hSw; have s1 := (hx5.out 1 _ f1.out).1; have s6 := (hx5.out 6 _ f6.out).1; clear hx5; go_simp; try with_reducible rfl
        simp only [Act.put, zA, zB, zC]
        refine tk18 (v := ?_) (by kernel_rfl) (by kernel_rfl) (by kernel_rfl) (fun _ _ _ h => h) (Or.inl ⟨by first | rfl | (simp [Region.wanted, yielded]; done), ?_⟩) hS ?_
        rotate_left
        ·intro w' hSw; obtain ⟨hx5, sj1, sj6⟩ := hSw; have s1 := (hx5.out 1 _ f1.out).1; have s6 := (hx5.out 6 _ f6.out).1; clear hx5; go_simp; try with_reducible rfl
        simp only [Act.put, zA, zB, zC]
        refine tk19 (v := .bool true) (by kernel_rfl) (by kernel_rfl) (by kernel_rfl) (fun _ _ _ h => h) (Or.inl ⟨by first | rfl | (simp [Region.wanted, yielded]; done), ?_⟩) hS ?_
        ·intro w' hSw
         clear hSw; go_simp; first | done | with_reducible rfl | exact hwv | (simp_all; done) | trace_state
        simp only [Act.put, zA, zB, zC]
        refine tk20 (v := ?_) (by kernel_rfl) (by kernel_rfl) (by kernel_rfl) (fun _ _ _ h => h) (Or.inl ⟨by first | rfl | (simp [Region.wanted, yielded]; done), ?_⟩) hS ?_
        rotate_left
        ·intro w' hSw; obtain ⟨hx5, sj1, sj6⟩ := hSw; have s1 := (hx5.out 1 _ f1.out).1; have s6 := (hx5.out 6 _ f6.out).1; clear hx5; go_simp; try with_reducible rfl
        simp only [Act.put, zA, zB, zC]
        refine tk21 (v := undef) (by kernel_rfl) (by kernel_rfl) (by kernel_rfl) (fun _ _ _ h => h) (Or.inr ⟨by rfl, rfl⟩) hS ?_
        simp only [Act.put, zA, zB, zC]
        refine tk22 (v := undef) (by kernel_rfl) (by kernel_rfl) (by kernel_rfl) (fun _ _ _ h => h) (Or.inr ⟨by rfl, rfl⟩) hS ?_
        simp only [Act.put, zA, zB, zC]
        refine tk23 (v := undef) (by kernel_rfl) (by kernel_rfl) (by kernel_rfl) (fun _ _ _ h => h) (Or.inr ⟨by rfl, rfl⟩) hS ?_
        simp only [Act.put, zA, zB, zC]
        refine tk24 (v := undef) (by kernel_rfl) (by kernel_rfl) (by kernel_rfl) (fun _ _ _ h => h) (Or.inr ⟨by rfl, rfl⟩) hS ?_
        simp only [Act.put, zA, zB, zC]
        refine tk25 (v := undef) (by kernel_rfl) (by kernel_rfl) (by kernel_rfl) (fun _ _ _ h => h) (Or.inr ⟨by rfl, rfl⟩) hS ?_
        simp only [Act.put, zA, zB, zC]
        refine tk26 (v := undef) (by kernel_rfl) (by kernel_rfl) (by kernel_rfl) (fun _ _ _ h => h) (Or.inr ⟨by rfl, rfl⟩) hS ?_
        simp only [Act.put, zA, zB, zC]
        refine tk27 (v := undef) (by kernel_rfl) (by kernel_rfl) (by kernel_rfl) (fun _ _ _ h => h) (Or.inr ⟨by rfl, rfl⟩) hS ?_
        simp only [Act.put, zA, zB, zC]
        refine tk28 (v := undef) (by kernel_rfl) (by kernel_rfl) (by kernel_rfl) (fun _ _ _ h => h) (Or.inr ⟨by rfl, rfl⟩) hS ?_
        simp only [Act.put, zA, zB, zC]
        refine tk29 (v := ?_) (by kernel_rfl) (by kernel_rfl) (by kernel_rfl) (fun _ _ _ h => h) (Or.inl ⟨by first | rfl | (simp [Region.wanted, yielded]; done), ?_⟩) hS ?_
        rotate_left
        ·intro w' hSw; obtain ⟨hx5, sj1, sj6⟩ := hSw; have s1 := (hx5.out 1 _ f1.out).1; have s6 := (hx5.out 6 _ f6.out).1; clear hx5; go_simp; try with_reducible rfl
        simp only [Act.put, zA, zB, zC]
        refine tk30 (v := ?_) (by kernel_rfl) (by kernel_rfl) (by kernel_rfl) (fun _ _ _ h => h) (Or.inl ⟨by first | rfl | (simp [Region.wanted, yielded]; done), ?_⟩) hS ?_
        rotate_left
        ·intro w' hSw; obtain ⟨hx5, sj1, sj6⟩ := hSw; have s1 := (hx5.out 1 _ f1.out).1; have s6 := (hx5.out 6 _ f6.out).1; clear hx5; go_simp; try with_reducible rfl
        simp only [Act.put, zA, zB, zC]
        refine tk31 (v := ?_) (by kernel_rfl) (by kernel_rfl) (by kernel_rfl) (fun _ _ _ h => h) (Or.inl ⟨by first | rfl | (simp [Region.wanted, yielded]; done), ?_⟩) hS ?_
        rotate_left
        ·intro w' hSw; obtain ⟨hx5, sj1, sj6⟩ := hSw; have s1 := (hx5.out 1 _ f1.out).1; have s6 := (hx5.out 6 _ f6.out).1; clear hx5; go_simp; try with_reducible rfl
        simp only [Act.put, zA, zB, zC]
        refine wpAnyH_done (by kernel_rfl) ?_ _
        clear hS
        go_wp2_with fail
        go_ret
        exact ⟨ret_int HR5.out.symm, BB2.out⟩
    | false =>
     cases em with
     | true =>
      have HR3 : Hid (R = match (before (rs.take k) r).getLast? with | none => if r.ver = 1 then 0 else 6 | some v => if v.ver = r.ver - 1 ∧ v.known ≤ r.known then 0 else 6) := by show _ = _; rw [HR2.out]; rfl
      clear HR2
      rcases HM3.out with ⟨rfl, h2⟩ | ⟨j, hj, rfl, h2⟩
      ·by_cases hv1 : r.ver = 1
       ·have HR4 : Hid (R = 0) := by show _ = _; rw [HR3.out, h2, hv1]; rfl
        have hvb : (r.ver == 1) = true := by simpa using hv1
        clear HR3 HM3 h2 f1 t1 t2 KO HVV
        generalize r.ver = v2 at *
        subst hv1
        go_wp2_with fail
        go_quiet (fail)
        go_wp2_with fail
        go_ret
        exact ⟨ret_int HR4.out.symm, by show RowKit.Below _ _ _; exact (by repeat' (first | (with_reducible exact BB.out) | (with_reducible refine Below.setCell ?_ ?_ _) | (with_reducible refine Below.alloc ?_ ?_ _) | (with_reducible refine Below.drew ?_) | (with_reducible refine below_drewN ?_ _) | (with_reducible exact Below.refl _ _) | omega | (simp; done) | (simp; omega)))⟩
       ·have HR4 : Hid (R = 6) := by show _ = _; rw [HR3.out, h2]; simp [hv1]
        have hvb : (r.ver == 1) = false := beq_eq_false_iff_ne.2 hv1
        clear HR3 HM3 h2
        go_wp2_with fail
        have hb := (Below.refl V.heap.size V).drew
        have BB2 := Lib.hid (BB.out.trans (hb.mono BB.out.size))
        have hS : Hid (BoxL V.drew w.heap.size l) := Lib.hid (X5.out.bel hpl hb)
        refine wp_region_held (S := fun w' : World => Hid (BoxL w' w.heap.size l)) mixed ?_
        change wpAnyH _ _ _ _ _ _ _ _ V.drew
        clear hb
        generalize V.drew = U9 at *
        refine tk0 (v := ?_) (by kernel_rfl) (by kernel_rfl) (by kernel_rfl) (fun _ _ _ h => h) (Or.inl ⟨by first | rfl | (simp [Region.wanted, yielded]; done), ?_⟩) hS ?_
        rotate_left
        ·intro w' hSw; have s1 := (hSw.out 1 _ f1.out).1; clear hSw; go_simp; try with_reducible rfl
        simp only [Act.put, zA, zB, zC]
        refine tk1 (v := ?_) (by kernel_rfl) (by kernel_rfl) (by kernel_rfl) (fun _ _ _ h => h) (Or.inl ⟨by first | rfl | (simp [Region.wanted, yielded]; done), ?_⟩) hS ?_
        rotate_left
        ·intro w' hSw; have s1 := (hSw.out 1 _ f1.out).1; clear hSw; go_simp; try with_reducible rfl
        simp only [Act.put, zA, zB, zC]
        refine tk2 (v := ?_) (by kernel_rfl) (by kernel_rfl) (by kernel_rfl) (fun _ _ _ h => h) (Or.inl ⟨by first | rfl | (simp [Region.wanted, yielded]; done), ?_⟩) hS ?_
        rotate_left
        ·intro w' hSw; have s1 := (hSw.out 1 _ f1.out).1; clear hSw; go_simp; try with_reducible rfl
        simp only [Act.put, zA, zB, zC]
        refine tk3 (v := ?_) (by kernel_rfl) (by kernel_rfl) (by kernel_rfl) (fun _ _ _ h => h) (Or.inl ⟨by first | rfl | (simp [Region.wanted, yielded]; done), ?_⟩) hS ?_
        rotate_left
        ·intro w' hSw; have s1 := (hSw.out 1 _ f1.out).1; clear hSw; go_simp; try with_reducible rfl
        simp only [Act.put, zA, zB, zC]
        refine tk4 (v := ?_) (by kernel_rfl) (by kernel_rfl) (by kernel_rfl) (fun _ _ _ h => h) (Or.inl ⟨by first | rfl | (simp [Region.wanted, yielded]; done), ?_⟩) hS ?_
        rotate_left
        ·intro w' hSw; have s1 := (hSw.out 1 _ f1.out).1; clear hSw; go_simp; try with_reducible rfl
        simp only [Act.put, zA, zB, zC]
        refine tk5 (v := .bool true) (by kernel_rfl) (by kernel_rfl) (by kernel_rfl) (fun _ _ _ h => h) (Or.inl ⟨by first | rfl | (simp [Region.wanted, yielded]; done), ?_⟩) hS ?_
        ·intro w' hSw
         clear hSw; go_simp; first | done | with_reducible rfl | (simp_all; done) | trace_state
        simp only [Act.put, zA, zB, zC]
        refine tk6 (v := ?_) (by kernel_rfl) (by kernel_rfl) (by kernel_rfl) (fun _ _ _ h => h) (Or.inl ⟨by first | rfl | (simp [Region.wanted, yielded]; done), ?_⟩) hS ?_
        rotate_left
        ·intro w' hSw; have s1 := (hSw.out 1 _ f1.out).1; clear hSw; go_simp; try with_reducible rfl
        simp only [Act.put, zA, zB, zC]
        refine tk7 (v := ?_) (by kernel_rfl) (by kernel_rfl) (by kernel_rfl) (fun _ _ _ h => h) (Or.inl ⟨by first | rfl | (simp [Region.wanted, yielded]; done), ?_⟩) hS ?_
        rotate_left
        ·intro w' hSw; have s1 := (hSw.out 1 _ f1.out).1; clear hSw; go_simp; try with_reducible rfl
        simp only [Act.put, zA, zB, zC]
        refine tk8 (v := undef) (by kernel_rfl) (by kernel_rfl) (by kernel_rfl) (fun _ _ _ h => h) (Or.inr ⟨by rfl, rfl⟩) hS ?_
        simp only [Act.put, zA, zB, zC]
        refine tk9 (v := undef) (by kernel_rfl) (by kernel_rfl) (by kernel_rfl) (fun _ _ _ h => h) (Or.inr ⟨by rfl, rfl⟩) hS ?_
        simp only [Act.put, zA, zB, zC]
        refine tk10 (v := undef) (by kernel_rfl) (by kernel_rfl) (by kernel_rfl) (fun _ _ _ h => h) (Or.inr ⟨by rfl, rfl⟩) hS ?_
        simp only [Act.put, zA, zB, zC]
        refine tk11 (v := undef) (by kernel_rfl) (by kernel_rfl) (by kernel_rfl) (fun _ _ _ h => h) (Or.inr ⟨by rfl, rfl⟩) hS ?_
        simp only [Act.put, zA, zB, zC]
        refine tk12 (v := undef) (by kernel_rfl) (by kernel_rfl) (by kernel_rfl) (fun _ _ _ h => h) (Or.inr ⟨by rfl, rfl⟩) hS ?_
        simp only [Act.put, zA, zB, zC]
        refine tk13 (v := undef) (by kernel_rfl) (by kernel_rfl) (by kernel_rfl) (fun _ _ _ h => h) (Or.inr ⟨by rfl, rfl⟩) hS ?_
        simp only [Act.put, zA, zB, zC]
        refine tk14 (v := undef) (by kernel_rfl) (by kernel_rfl) (by kernel_rfl) (fun _ _ _ h => h) (Or.inr ⟨by rfl, rfl⟩) hS ?_
        simp only [Act.put, zA, zB, zC]
        refine tk15 (v := undef) (by kernel_rfl) (by kernel_rfl) (by kernel_rfl) (fun _ _ _ h => h) (Or.inr ⟨by rfl, rfl⟩) hS ?_
        simp only [Act.put, zA, zB, zC]
        refine tk16 (v := undef) (by kernel_rfl) (by kernel_rfl) (by kernel_rfl) (fun _ _ _ h => h) (Or.inr ⟨by rfl, rfl⟩) hS ?_
        simp only [Act.put, zA, zB, zC]
        refine tk17 (v := undef) (by kernel_rfl) (by kernel_rfl) (by kernel_rfl) (fun _ _ _ h => h) (Or.inr ⟨by rfl, rfl⟩) hS ?_
        simp only [Act.put, zA, zB, zC]
        refine tk18 (v := undef) (by kernel_rfl) (by kernel_rfl) (by kernel_rfl) (fun _ _ _ h => h) (Or.inr ⟨by rfl, rfl⟩) hS ?_
        simp only [Act.put, zA, zB, zC]
        refine tk19 (v := undef) (by kernel_rfl) (by kernel_rfl) (by kernel_rfl) (fun _ _ _ h => h) (Or.inr ⟨by rfl, rfl⟩) hS ?_
        simp only [Act.put, zA, zB, zC]
        refine tk20 (v := undef) (by kernel_rfl) (by kernel_rfl) (by kernel_rfl) (fun _ _ _ h => h) (Or.inr ⟨by rfl, rfl⟩) hS ?_
        simp only [Act.put, zA, zB, zC]
        refine tk21 (v := undef) (by kernel_rfl) (by kernel_rfl) (by kernel_rfl) (fun _ _ _ h => h) (Or.inr ⟨by rfl, rfl⟩) hS ?_
        simp only [Act.put, zA, zB, zC]
        refine tk22 (v := undef) (by kernel_rfl) (by kernel_rfl) (by kernel_rfl) (fun _ _ _ h => h) (Or.inr ⟨by rfl, rfl⟩) hS ?_
        simp only [Act.put, zA, zB, zC]
        refine tk23 (v := undef) (by kernel_rfl) (by kernel_rfl) (by kernel_rfl) (fun _ _ _ h => h) (Or.inr ⟨by rfl, rfl⟩) hS ?_
        simp only [Act.put, zA, zB, zC]
        refine tk24 (v := undef) (by kernel_rfl) (by kernel_rfl) (by kernel_rfl) (fun _ _ _ h => h) (Or.inr ⟨by rfl, rfl⟩) hS ?_
        simp only [Act.put, zA, zB, zC]
        refine tk25 (v := undef) (by kernel_rfl) (by kernel_rfl) (by kernel_rfl) (fun _ _ _ h => h) (Or.inr ⟨by rfl, rfl⟩) hS ?_
        simp only [Act.put, zA, zB, zC]
        refine tk26 (v := undef) (by kernel_rfl) (by kernel_rfl) (by kernel_rfl) (fun _ _ _ h => h) (Or.inr ⟨by rfl, rfl⟩) hS ?_
        simp only [Act.put, zA, zB, zC]
        refine tk27 (v := undef) (by kernel_rfl) (by kernel_rfl) (by kernel_rfl) (fun _ _ _ h => h) (Or.inr ⟨by rfl, rfl⟩) hS ?_
        simp only [Act.put, zA, zB, zC]
        refine tk28 (v := undef) (by kernel_rfl) (by kernel_rfl) (by kernel_rfl) (fun _ _ _ h => h) (Or.inr ⟨by rfl, rfl⟩) hS ?_
        simp only [Act.put, zA, zB, zC]
        refine tk29 (v := undef) (by kernel_rfl) (by kernel_rfl) (by kernel_rfl) (fun _ _ _ h => h) (Or.inr ⟨by rfl, rfl⟩) hS ?_
        simp only [Act.put, zA, zB, zC]
        refine tk30 (v := undef) (by kernel_rfl) (by kernel_rfl) (by kernel_rfl) (fun _ _ _ h => h) (Or.inr ⟨by rfl, rfl⟩) hS ?_
        simp only [Act.put, zA, zB, zC]
        refine tk31 (v := ?_) (by kernel_rfl) (by kernel_rfl) (by kernel_rfl) (fun _ _ _ h => h) (Or.inl ⟨by first | rfl | (simp [Region.wanted, yielded]; done), ?_⟩) hS ?_
        rotate_left
        ·intro w' hSw; have s1 := (hSw.out 1 _ f1.out).1; clear hSw; go_simp; try with_reducible rfl
        simp only [Act.put, zA, zB, zC]
        refine wpAnyH_done (by kernel_rfl) ?_ _
        clear hS
        go_wp2_with fail
        go_ret
        exact ⟨ret_int HR4.out.symm, BB2.out⟩
      ·obtain ⟨-, zj1, -, -, zj6⟩ := KO.out j hj _ BB.out
       have hzj : (j : Int) < (rs.length : Int) := by omega
       have hj0 : ¬ (j : Int) < 0 := by omega
       have hiv := HVV.out j hj
       have HR4 : Hid (R = if rs[j].ver = r.ver - 1 ∧ rs[j].known ≤ r.known then 0 else 6) := by show _ = _; rw [HR3.out, h2]
       clear HR3 HM3 h2
       generalize rs[j].ver = vj at *
       generalize rs[j].known = kj at *
       by_cases hvj : vj = r.ver - 1
       ·have ew : IntKind.i64.wrap (vj + 1) = r.ver := by rw [IntWalk.i64_in _ (by omega)]; omega
        by_cases hkj : kj ≤ r.known
        ·have HR5 : Hid (R = 0) := by show _ = _; rw [HR4.out, if_pos ⟨hvj, hkj⟩]
         have hkn : ¬ r.known < kj := by omega
         clear hvj hiv
         go_wp2_with fail
         have hb := (Below.refl V.heap.size V).drew
         have BB2 := Lib.hid (BB.out.trans (hb.mono BB.out.size))
         have hS : Hid (BoxL V.drew w.heap.size l) ∧ V.drew.cell? ⟨br, orr + j * 28 + 1, none⟩ = some (.int .i64 vj) ∧ V.drew.cell? ⟨br, orr + j * 28 + 6, none⟩ = some (.int .i64 kj) := ⟨Lib.hid (X5.out.bel hpl hb), (hb.cell (World.block_lt_of_cell? _ _ zj1)).trans zj1, (hb.cell (World.block_lt_of_cell? _ _ zj6)).trans zj6⟩
         refine wp_region_held (S := fun w' : World => Hid (BoxL w' w.heap.size l) ∧ w'.cell? ⟨br, orr + j * 28 + 1, none⟩ = some (.int .i64 vj) ∧ w'.cell? ⟨br, orr + j * 28 + 6, none⟩ = some (.int .i64 kj)) mixed ?_
         change wpAnyH _ _ _ _ _ _ _ _ V.drew
         clear hb
         generalize V.drew = U9 at *
         refine tk0 (v := ?_) (by kernel_rfl) (by kernel_rfl) (by kernel_rfl) (fun _ _ _ h => h) (Or.inl ⟨by first | rfl | (simp [Region.wanted, yielded]; done), ?_⟩) hS ?_
         rotate_left
         ·intro w' hSw; obtain ⟨hx5, sj1, sj6⟩ := hSw; have s1 := (hx5.out 1 _ f1.out).1; have s6 := (hx5.out 6 _ f6.out).1; clear hx5; go_simp; try with_reducible rfl
         simp only [Act.put, zA, zB, zC]
         refine tk1 (v := .bool false) (by kernel_rfl) (by kernel_rfl) (by kernel_rfl) (fun _ _ _ h => h) (Or.inl ⟨by first | rfl | (simp [Region.wanted, yielded]; done), ?_⟩) hS ?_
         ·intro w' hSw
          clear hSw; go_simp; first | done | with_reducible rfl | (simp_all; done) | trace_state
         simp only [Act.put, zA, zB, zC]
         refine tk2 (v := ?_) (by kernel_rfl) (by kernel_rfl) (by kernel_rfl) (fun _ _ _ h => h) (Or.inl ⟨by first | rfl | (simp [Region.wanted, yielded]; done), ?_⟩) hS ?_
         rotate_left
         ·intro w' hSw; obtain ⟨hx5, sj1, sj6⟩ := hSw; have s1 := (hx5.out 1 _ f1.out).1; have s6 := (hx5.out 6 _ f6.out).1; clear hx5; go_simp; try with_reducible rfl
         simp only [Act.put, zA, zB, zC]
         refine tk3 (v := undef) (by kernel_rfl) (by kernel_rfl) (by kernel_rfl) (fun _ _ _ h => h) (Or.inr ⟨by rfl, rfl⟩) hS ?_
         simp only [Act.put, zA, zB, zC]
         refine tk4 (v := undef) (by kernel_rfl) (by kernel_rfl) (by kernel_rfl) (fun _ _ _ h => h) (Or.inr ⟨by rfl, rfl⟩) hS ?_
         simp only [Act.put, zA, zB, zC]
         refine tk5 (v := undef) (by kernel_rfl) (by kernel_rfl) (by kernel_rfl) (fun _ _ _ h => h) (Or.inr ⟨by rfl, rfl⟩) hS ?_
         simp only [Act.put, zA, zB, zC]
         refine tk6 (v := ?_) (by kernel_rfl) (by kernel_rfl) (by kernel_rfl) (fun _ _ _ h => h) (Or.inl ⟨by first | rfl | (simp [Region.wanted, yielded]; done), ?_⟩) hS ?_
         rotate_left
         ·intro w' hSw; obtain ⟨hx5, sj1, sj6⟩ := hSw; have s1 := (hx5.out 1 _ f1.out).1; have s6 := (hx5.out 6 _ f6.out).1; clear hx5; go_simp; try with_reducible rfl
         simp only [Act.put, zA, zB, zC]
         refine tk7 (v := ?_) (by kernel_rfl) (by kernel_rfl) (by kernel_rfl) (fun _ _ _ h => h) (Or.inl ⟨by first | rfl | (simp [Region.wanted, yielded]; done), ?_⟩) hS ?_
         rotate_left
         ·intro w' hSw; obtain ⟨hx5, sj1, sj6⟩ := hSw; have s1 := (hx5.out 1 _ f1.out).1; have s6 := (hx5.out 6 _ f6.out).1; clear hx5; go_simp; try with_reducible rfl
         simp only [Act.put, zA, zB, zC]
         refine tk8 (v := ?_) (by kernel_rfl) (by kernel_rfl) (by kernel_rfl) (fun _ _ _ h => h) (Or.inl ⟨by first | rfl | (simp [Region.wanted, yielded]; done), ?_⟩) hS ?_
         rotate_left
         ·intro w' hSw; obtain ⟨hx5, sj1, sj6⟩ := hSw; have s1 := (hx5.out 1 _ f1.out).1; have s6 := (hx5.out 6 _ f6.out).1; clear hx5; go_simp; try with_reducible rfl
         simp only [Act.put, zA, zB, zC]
         refine tk9 (v := .bool true) (by kernel_rfl) (by kernel_rfl) (by kernel_rfl) (fun _ _ _ h => h) (Or.inl ⟨by first | rfl | (simp [Region.wanted, yielded]; done), ?_⟩) hS ?_
         ·intro w' hSw
          clear hSw; go_simp; first | done | with_reducible rfl | (simp_all; done) | trace_state
         simp only [Act.put, zA, zB, zC]
         refine tk10 (v := ?_) (by kernel_rfl) (by kernel_rfl) (by kernel_rfl) (fun _ _ _ h => h) (Or.inl ⟨by first | rfl | (simp [Region.wanted, yielded]; done), ?_⟩) hS ?_
         rotate_left
         ·intro w' hSw; obtain ⟨hx5, sj1, sj6⟩ := hSw; have s1 := (hx5.out 1 _ f1.out).1; have s6 := (hx5.out 6 _ f6.out).1; clear hx5; go_simp; try with_reducible rfl
         simp only [Act.put, zA, zB, zC]
         refine tk11 (v := ?_) (by kernel_rfl) (by kernel_rfl) (by kernel_rfl) (fun _ _ _ h => h) (Or.inl ⟨by first | rfl | (simp [Region.wanted, yielded]; done), ?_⟩) hS ?_
         rotate_left
         ·intro w' hSw; obtain ⟨hx5, sj1, sj6⟩ := hSw; have s1 := (hx5.out 1 _ f1.out).1; have s6 := (hx5.out 6 _ f6.out).1; clear hx5; go_simp; try with_reducible rfl
         simp only [Act.put, zA, zB, zC]
         refine tk12 (v := ?_) (by kernel_rfl) (by kernel_rfl) (by kernel_rfl) (fun _ _ _ h => h) (Or.inl ⟨by first | rfl | (simp [Region.wanted, yielded]; done), ?_⟩) hS ?_
         rotate_left
         ·intro w' hSw; obtain ⟨hx5, sj1, sj6⟩ := hSw; have s1 := (hx5.out 1 _ f1.out).1; have s6 := (hx5.out 6 _ f6.out).1; clear hx5; go_simp; try with_reducible rfl
         simp only [Act.put, zA, zB, zC]
         refine tk13 (v := ?_) (by kernel_rfl) (by kernel_rfl) (by kernel_rfl) (fun _ _ _ h => h) (Or.inl ⟨by first | rfl | (simp [Region.wanted, yielded]; done), ?_⟩) hS ?_
         rotate_left
         ·intro w' hSw; obtain ⟨hx5, sj1, sj6⟩ := hSw; have s1 := (hx5.out 1 _ f1.out).1; have s6 := (hx5.out 6 _ f6.out).1; clear hx5; go_simp; try with_reducible rfl
         simp only [Act.put, zA, zB, zC]
         refine tk14 (v := ?_) (by kernel_rfl) (by kernel_rfl) (by kernel_rfl) (fun _ _ _ h => h) (Or.inl ⟨by first | rfl | (simp [Region.wanted, yielded]; done), ?_⟩) hS ?_
         rotate_left
         ·intro w' hSw; obtain ⟨hx5, sj1, sj6⟩ := hSw; have s1 := (hx5.out 1 _ f1.out).1; have s6 := (hx5.out 6 _ f6.out).1; clear hx5; go_simp; try with_reducible rfl
         simp only [Act.put, zA, zB, zC]
         refine tk15 (v := ?_) (by kernel_rfl) (by kernel_rfl) (by kernel_rfl) (fun _ _ _ h => h) (Or.inl ⟨by first | rfl | (simp [Region.wanted, yielded]; done), ?_⟩) hS ?_
         rotate_left
         ·intro w' hSw; obtain ⟨hx5, sj1, sj6⟩ := hSw; have s1 := (hx5.out 1 _ f1.out).1; have s6 := (hx5.out 6 _ f6.out).1; clear hx5; go_simp; try with_reducible rfl
         simp only [Act.put, zA, zB, zC]
         refine tk16 (v := ?_) (by kernel_rfl) (by kernel_rfl) (by kernel_rfl) (fun _ _ _ h => h) (Or.inl ⟨by first | rfl | (simp [Region.wanted, yielded]; done), ?_⟩) hS ?_
         rotate_left
         ·intro w' hSw; obtain ⟨hx5, sj1, sj6⟩ := hSw; have s1 := (hx5.out 1 _ f1.out).1; have s6 := (hx5.out 6 _ f6.out).1; clear hx5; go_simp; try with_reducible rfl
         simp only [Act.put, zA, zB, zC]
         refine tk17 (v := ?_) (by kernel_rfl) (by kernel_rfl) (by kernel_rfl) (fun _ _ _ h => h) (Or.inl ⟨by first | rfl | (simp [Region.wanted, yielded]; done), ?_⟩) hS ?_
         rotate_left
         ·intro w' hSw; obtain ⟨hx5, sj1, sj6⟩ := hSw; have s1 := (hx5.out 1 _ f1.out).1; have s6 := (hx5.out 6 _ f6.out).1; clear hx5; go_simp; try with_reducible rfl
         simp only [Act.put, zA, zB, zC]
         refine tk18 (v := ?_) (by kernel_rfl) (by kernel_rfl) (by kernel_rfl) (fun _ _ _ h => h) (Or.inl ⟨by first | rfl | (simp [Region.wanted, yielded]; done), ?_⟩) hS ?_
         rotate_left
         ·intro w' hSw; obtain ⟨hx5, sj1, sj6⟩ := hSw; have s1 := (hx5.out 1 _ f1.out).1; have s6 := (hx5.out 6 _ f6.out).1; clear hx5; go_simp; try with_reducible rfl
         simp only [Act.put, zA, zB, zC]
         refine tk19 (v := .bool false) (by kernel_rfl) (by kernel_rfl) (by kernel_rfl) (fun _ _ _ h => h) (Or.inl ⟨by first | rfl | (simp [Region.wanted, yielded]; done), ?_⟩) hS ?_
         ·intro w' hSw
          clear hSw; go_simp; first | done | with_reducible rfl | (simp_all; done) | trace_state
         simp only [Act.put, zA, zB, zC]
         refine tk20 (v := ?_) (by kernel_rfl) (by kernel_rfl) (by kernel_rfl) (fun _ _ _ h => h) (Or.inl ⟨by first | rfl | (simp [Region.wanted, yielded]; done), ?_⟩) hS ?_
         rotate_left
         ·intro w' hSw; obtain ⟨hx5, sj1, sj6⟩ := hSw; have s1 := (hx5.out 1 _ f1.out).1; have s6 := (hx5.out 6 _ f6.out).1; clear hx5; go_simp; try with_reducible rfl
         simp only [Act.put, zA, zB, zC]
         refine tk21 (v := ?_) (by kernel_rfl) (by kernel_rfl) (by kernel_rfl) (fun _ _ _ h => h) (Or.inl ⟨by first | rfl | (simp [Region.wanted, yielded]; done), ?_⟩) hS ?_
         rotate_left
         ·intro w' hSw; obtain ⟨hx5, sj1, sj6⟩ := hSw; have s1 := (hx5.out 1 _ f1.out).1; have s6 := (hx5.out 6 _ f6.out).1; clear hx5; go_simp; try with_reducible rfl
         simp only [Act.put, zA, zB, zC]
         refine tk22 (v := ?_) (by kernel_rfl) (by kernel_rfl) (by kernel_rfl) (fun _ _ _ h => h) (Or.inl ⟨by first | rfl | (simp [Region.wanted, yielded]; done), ?_⟩) hS ?_
         rotate_left
         ·intro w' hSw; obtain ⟨hx5, sj1, sj6⟩ := hSw; have s1 := (hx5.out 1 _ f1.out).1; have s6 := (hx5.out 6 _ f6.out).1; clear hx5; go_simp; try with_reducible rfl
         simp only [Act.put, zA, zB, zC]
         refine tk23 (v := ?_) (by kernel_rfl) (by kernel_rfl) (by kernel_rfl) (fun _ _ _ h => h) (Or.inl ⟨by first | rfl | (simp [Region.wanted, yielded]; done), ?_⟩) hS ?_
         rotate_left
         ·intro w' hSw; obtain ⟨hx5, sj1, sj6⟩ := hSw; have s1 := (hx5.out 1 _ f1.out).1; have s6 := (hx5.out 6 _ f6.out).1; clear hx5; go_simp; try with_reducible rfl
         simp only [Act.put, zA, zB, zC]
         refine tk24 (v := ?_) (by kernel_rfl) (by kernel_rfl) (by kernel_rfl) (fun _ _ _ h => h) (Or.inl ⟨by first | rfl | (simp [Region.wanted, yielded]; done), ?_⟩) hS ?_
         rotate_left
         ·intro w' hSw; obtain ⟨hx5, sj1, sj6⟩ := hSw; have s1 := (hx5.out 1 _ f1.out).1; have s6 := (hx5.out 6 _ f6.out).1; clear hx5; go_simp; try with_reducible rfl
         simp only [Act.put, zA, zB, zC]
         refine tk25 (v := ?_) (by kernel_rfl) (by kernel_rfl) (by kernel_rfl) (fun _ _ _ h => h) (Or.inl ⟨by first | rfl | (simp [Region.wanted, yielded]; done), ?_⟩) hS ?_
         rotate_left
         ·intro w' hSw; obtain ⟨hx5, sj1, sj6⟩ := hSw; have s1 := (hx5.out 1 _ f1.out).1; have s6 := (hx5.out 6 _ f6.out).1; clear hx5; go_simp; try with_reducible rfl
         simp only [Act.put, zA, zB, zC]
         refine tk26 (v := ?_) (by kernel_rfl) (by kernel_rfl) (by kernel_rfl) (fun _ _ _ h => h) (Or.inl ⟨by first | rfl | (simp [Region.wanted, yielded]; done), ?_⟩) hS ?_
         rotate_left
         ·intro w' hSw; obtain ⟨hx5, sj1, sj6⟩ := hSw; have s1 := (hx5.out 1 _ f1.out).1; have s6 := (hx5.out 6 _ f6.out).1; clear hx5; go_simp; try with_reducible rfl
         simp only [Act.put, zA, zB, zC]
         refine tk27 (v := ?_) (by kernel_rfl) (by kernel_rfl) (by kernel_rfl) (fun _ _ _ h => h) (Or.inl ⟨by first | rfl | (simp [Region.wanted, yielded]; done), ?_⟩) hS ?_
         rotate_left
         ·intro w' hSw; obtain ⟨hx5, sj1, sj6⟩ := hSw; have s1 := (hx5.out 1 _ f1.out).1; have s6 := (hx5.out 6 _ f6.out).1; clear hx5; go_simp; try with_reducible rfl
         simp only [Act.put, zA, zB, zC]
         refine tk28 (v := .bool false) (by kernel_rfl) (by kernel_rfl) (by kernel_rfl) (fun _ _ _ h => h) (Or.inl ⟨by first | rfl | (simp [Region.wanted, yielded]; done), ?_⟩) hS ?_
         ·intro w' hSw
          clear hSw; go_simp; first | done | with_reducible rfl | (simp_all; done) | trace_state
         simp only [Act.put, zA, zB, zC]
         refine tk29 (v := ?_) (by kernel_rfl) (by kernel_rfl) (by kernel_rfl) (fun _ _ _ h => h) (Or.inl ⟨by first | rfl | (simp [Region.wanted, yielded]; done), ?_⟩) hS ?_
         rotate_left
         ·intro w' hSw; obtain ⟨hx5, sj1, sj6⟩ := hSw; have s1 := (hx5.out 1 _ f1.out).1; have s6 := (hx5.out 6 _ f6.out).1; clear hx5; go_simp; try with_reducible rfl
         simp only [Act.put, zA, zB, zC]
         refine tk30 (v := ?_) (by kernel_rfl) (by kernel_rfl) (by kernel_rfl) (fun _ _ _ h => h) (Or.inl ⟨by first | rfl | (simp [Region.wanted, yielded]; done), ?_⟩) hS ?_
         rotate_left
         ·intro w' hSw; obtain ⟨hx5, sj1, sj6⟩ := hSw; have s1 := (hx5.out 1 _ f1.out).1; have s6 := (hx5.out 6 _ f6.out).1; clear hx5; go_simp; try with_reducible rfl
         simp only [Act.put, zA, zB, zC]
         refine tk31 (v := ?_) (by kernel_rfl) (by kernel_rfl) (by kernel_rfl) (fun _ _ _ h => h) (Or.inl ⟨by first | rfl | (simp [Region.wanted, yielded]; done), ?_⟩) hS ?_
         rotate_left
         ·intro w' hSw; obtain ⟨hx5, sj1, sj6⟩ := hSw; have s1 := (hx5.out 1 _ f1.out).1; have s6 := (hx5.out 6 _ f6.out).1; clear hx5; go_simp; try with_reducible rfl
         simp only [Act.put, zA, zB, zC]
         refine wpAnyH_done (by kernel_rfl) ?_ _
         clear hS
         go_wp2_with fail
         go_ret
         exact ⟨ret_int HR5.out.symm, BB2.out⟩
        ·have HR5 : Hid (R = 6) := by show _ = _; rw [HR4.out, if_neg (fun h => hkj h.2)]
         have hkn : r.known < kj := by omega
         clear hvj hiv
         go_wp2_with fail
         have hb := (Below.refl V.heap.size V).drew
         have BB2 := Lib.hid (BB.out.trans (hb.mono BB.out.size))
         have hS : Hid (BoxL V.drew w.heap.size l) ∧ V.drew.cell? ⟨br, orr + j * 28 + 1, none⟩ = some (.int .i64 vj) ∧ V.drew.cell? ⟨br, orr + j * 28 + 6, none⟩ = some (.int .i64 kj) := ⟨Lib.hid (X5.out.bel hpl hb), (hb.cell (World.block_lt_of_cell? _ _ zj1)).trans zj1, (hb.cell (World.block_lt_of_cell? _ _ zj6)).trans zj6⟩
         refine wp_region_held (S := fun w' : World => Hid (BoxL w' w.heap.size l) ∧ w'.cell? ⟨br, orr + j * 28 + 1, none⟩ = some (.int .i64 vj) ∧ w'.cell? ⟨br, orr + j * 28 + 6, none⟩ = some (.int .i64 kj)) mixed ?_
         change wpAnyH _ _ _ _ _ _ _ _ V.drew
         clear hb
         generalize V.drew = U9 at *
         refine tk0 (v := ?_) (by kernel_rfl) (by kernel_rfl) (by kernel_rfl) (fun _ _ _ h => h) (Or.inl ⟨by first | rfl | (simp [Region.wanted, yielded]; done), ?_⟩) hS ?_
         rotate_left
         ·intro w' hSw; obtain ⟨hx5, sj1, sj6⟩ := hSw; have s1 := (hx5.out 1 _ f1.out).1; have s6 := (hx5.out 6 _ f6.out).1; clear hx5; go_simp; try with_reducible rfl
         simp only [Act.put, zA, zB, zC]
         refine tk1 (v := .bool false) (by kernel_rfl) (by kernel_rfl) (by kernel_rfl) (fun _ _ _ h => h) (Or.inl ⟨by first | rfl | (simp [Region.wanted, yielded]; done), ?_⟩) hS ?_
         ·intro w' hSw
          clear hSw; go_simp; first | done | with_reducible rfl | (simp_all; done) | trace_state
         simp only [Act.put, zA, zB, zC]
         refine tk2 (v := ?_) (by kernel_rfl) (by kernel_rfl) (by kernel_rfl) (fun _ _ _ h => h) (Or.inl ⟨by first | rfl | (simp [Region.wanted, yielded]; done), ?_⟩) hS ?_
         rotate_left
         ·intro w' hSw; obtain ⟨hx5, sj1, sj6⟩ := hSw; have s1 := (hx5.out 1 _ f1.out).1; have s6 := (hx5.out 6 _ f6.out).1; clear hx5; go_simp; try with_reducible rfl
         simp only [Act.put, zA, zB, zC]
         refine tk3 (v := undef) (by kernel_rfl) (by kernel_rfl) (by kernel_rfl) (fun _ _ _ h => h) (Or.inr ⟨by rfl, rfl⟩) hS ?_
         simp only [Act.put, zA, zB, zC]
         refine tk4 (v := undef) (by kernel_rfl) (by kernel_rfl) (by kernel_rfl) (fun _ _ _ h => h) (Or.inr ⟨by rfl, rfl⟩) hS ?_
         simp only [Act.put, zA, zB, zC]
         refine tk5 (v := undef) (by kernel_rfl) (by kernel_rfl) (by kernel_rfl) (fun _ _ _ h => h) (Or.inr ⟨by rfl, rfl⟩) hS ?_
         simp only [Act.put, zA, zB, zC]
         refine tk6 (v := ?_) (by kernel_rfl) (by kernel_rfl) (by kernel_rfl) (fun _ _ _ h => h) (Or.inl ⟨by first | rfl | (simp [Region.wanted, yielded]; done), ?_⟩) hS ?_
         rotate_left
         ·intro w' hSw; obtain ⟨hx5, sj1, sj6⟩ := hSw; have s1 := (hx5.out 1 _ f1.out).1; have s6 := (hx5.out 6 _ f6.out).1; clear hx5; go_simp; try with_reducible rfl
         simp only [Act.put, zA, zB, zC]
         refine tk7 (v := ?_) (by kernel_rfl) (by kernel_rfl) (by kernel_rfl) (fun _ _ _ h => h) (Or.inl ⟨by first | rfl | (simp [Region.wanted, yielded]; done), ?_⟩) hS ?_
         rotate_left
         ·intro w' hSw; obtain ⟨hx5, sj1, sj6⟩ := hSw; have s1 := (hx5.out 1 _ f1.out).1; have s6 := (hx5.out 6 _ f6.out).1; clear hx5; go_simp; try with_reducible rfl
         simp only [Act.put, zA, zB, zC]
         refine tk8 (v := ?_) (by kernel_rfl) (by kernel_rfl) (by kernel_rfl) (fun _ _ _ h => h) (Or.inl ⟨by first | rfl | (simp [Region.wanted, yielded]; done), ?_⟩) hS ?_
         rotate_left
         ·intro w' hSw; obtain ⟨hx5, sj1, sj6⟩ := hSw; have s1 := (hx5.out 1 _ f1.out).1; have s6 := (hx5.out 6 _ f6.out).1; clear hx5; go_simp; try with_reducible rfl
         simp only [Act.put, zA, zB, zC]
         refine tk9 (v := .bool true) (by kernel_rfl) (by kernel_rfl) (by kernel_rfl) (fun _ _ _ h => h) (Or.inl ⟨by first | rfl | (simp [Region.wanted, yielded]; done), ?_⟩) hS ?_
         ·intro w' hSw
          clear hSw; go_simp; first | done | with_reducible rfl | (simp_all; done) | trace_state
         simp only [Act.put, zA, zB, zC]
         refine tk10 (v := ?_) (by kernel_rfl) (by kernel_rfl) (by kernel_rfl) (fun _ _ _ h => h) (Or.inl ⟨by first | rfl | (simp [Region.wanted, yielded]; done), ?_⟩) hS ?_
         rotate_left
         ·intro w' hSw; obtain ⟨hx5, sj1, sj6⟩ := hSw; have s1 := (hx5.out 1 _ f1.out).1; have s6 := (hx5.out 6 _ f6.out).1; clear hx5; go_simp; try with_reducible rfl
         simp only [Act.put, zA, zB, zC]
         refine tk11 (v := ?_) (by kernel_rfl) (by kernel_rfl) (by kernel_rfl) (fun _ _ _ h => h) (Or.inl ⟨by first | rfl | (simp [Region.wanted, yielded]; done), ?_⟩) hS ?_
         rotate_left
         ·intro w' hSw; obtain ⟨hx5, sj1, sj6⟩ := hSw; have s1 := (hx5.out 1 _ f1.out).1; have s6 := (hx5.out 6 _ f6.out).1; clear hx5; go_simp; try with_reducible rfl
         simp only [Act.put, zA, zB, zC]
         refine tk12 (v := ?_) (by kernel_rfl) (by kernel_rfl) (by kernel_rfl) (fun _ _ _ h => h) (Or.inl ⟨by first | rfl | (simp [Region.wanted, yielded]; done), ?_⟩) hS ?_
         rotate_left
         ·intro w' hSw; obtain ⟨hx5, sj1, sj6⟩ := hSw; have s1 := (hx5.out 1 _ f1.out).1; have s6 := (hx5.out 6 _ f6.out).1; clear hx5; go_simp; try with_reducible rfl
         simp only [Act.put, zA, zB, zC]
         refine tk13 (v := ?_) (by kernel_rfl) (by kernel_rfl) (by kernel_rfl) (fun _ _ _ h => h) (Or.inl ⟨by first | rfl | (simp [Region.wanted, yielded]; done), ?_⟩) hS ?_
         rotate_left
         ·intro w' hSw; obtain ⟨hx5, sj1, sj6⟩ := hSw; have s1 := (hx5.out 1 _ f1.out).1; have s6 := (hx5.out 6 _ f6.out).1; clear hx5; go_simp; try with_reducible rfl
         simp only [Act.put, zA, zB, zC]
         refine tk14 (v := ?_) (by kernel_rfl) (by kernel_rfl) (by kernel_rfl) (fun _ _ _ h => h) (Or.inl ⟨by first | rfl | (simp [Region.wanted, yielded]; done), ?_⟩) hS ?_
         rotate_left
         ·intro w' hSw; obtain ⟨hx5, sj1, sj6⟩ := hSw; have s1 := (hx5.out 1 _ f1.out).1; have s6 := (hx5.out 6 _ f6.out).1; clear hx5; go_simp; try with_reducible rfl
         simp only [Act.put, zA, zB, zC]
         refine tk15 (v := ?_) (by kernel_rfl) (by kernel_rfl) (by kernel_rfl) (fun _ _ _ h => h) (Or.inl ⟨by first | rfl | (simp [Region.wanted, yielded]; done), ?_⟩) hS ?_
         rotate_left
         ·intro w' hSw; obtain ⟨hx5, sj1, sj6⟩ := hSw; have s1 := (hx5.out 1 _ f1.out).1; have s6 := (hx5.out 6 _ f6.out).1; clear hx5; go_simp; try with_reducible rfl
         simp only [Act.put, zA, zB, zC]
         refine tk16 (v := ?_) (by kernel_rfl) (by kernel_rfl) (by kernel_rfl) (fun _ _ _ h => h) (Or.inl ⟨by first | rfl | (simp [Region.wanted, yielded]; done), ?_⟩) hS ?_
         rotate_left
         ·intro w' hSw; obtain ⟨hx5, sj1, sj6⟩ := hSw; have s1 := (hx5.out 1 _ f1.out).1; have s6 := (hx5.out 6 _ f6.out).1; clear hx5; go_simp; try with_reducible rfl
         simp only [Act.put, zA, zB, zC]
         refine tk17 (v := ?_) (by kernel_rfl) (by kernel_rfl) (by kernel_rfl) (fun _ _ _ h => h) (Or.inl ⟨by first | rfl | (simp [Region.wanted, yielded]; done), ?_⟩) hS ?_
         rotate_left
         ·intro w' hSw; obtain ⟨hx5, sj1, sj6⟩ := hSw; have s1 := (hx5.out 1 _ f1.out).1; have s6 := (hx5.out 6 _ f6.out).1; clear hx5; go_simp; try with_reducible rfl
         simp only [Act.put, zA, zB, zC]
         refine tk18 (v := ?_) (by kernel_rfl) (by kernel_rfl) (by kernel_rfl) (fun _ _ _ h => h) (Or.inl ⟨by first | rfl | (simp [Region.wanted, yielded]; done), ?_⟩) hS ?_
         rotate_left
         ·intro w' hSw; obtain ⟨hx5, sj1, sj6⟩ := hSw; have s1 := (hx5.out 1 _ f1.out).1; have s6 := (hx5.out 6 _ f6.out).1; clear hx5; go_simp; try with_reducible rfl
         simp only [Act.put, zA, zB, zC]
         refine tk19 (v := .bool false) (by kernel_rfl) (by kernel_rfl) (by kernel_rfl) (fun _ _ _ h => h) (Or.inl ⟨by first | rfl | (simp [Region.wanted, yielded]; done), ?_⟩) hS ?_
         ·intro w' hSw
          clear hSw; go_simp; first | done | with_reducible rfl | (simp_all; done) | trace_state
         simp only [Act.put, zA, zB, zC]
         refine tk20 (v := ?_) (by kernel_rfl) (by kernel_rfl) (by kernel_rfl) (fun _ _ _ h => h) (Or.inl ⟨by first | rfl | (simp [Region.wanted, yielded]; done), ?_⟩) hS ?_
         rotate_left
         ·intro w' hSw; obtain ⟨hx5, sj1, sj6⟩ := hSw; have s1 := (hx5.out 1 _ f1.out).1; have s6 := (hx5.out 6 _ f6.out).1; clear hx5; go_simp; try with_reducible rfl
         simp only [Act.put, zA, zB, zC]
         refine tk21 (v := ?_) (by kernel_rfl) (by kernel_rfl) (by kernel_rfl) (fun _ _ _ h => h) (Or.inl ⟨by first | rfl | (simp [Region.wanted, yielded]; done), ?_⟩) hS ?_
         rotate_left
         ·intro w' hSw; obtain ⟨hx5, sj1, sj6⟩ := hSw; have s1 := (hx5.out 1 _ f1.out).1; have s6 := (hx5.out 6 _ f6.out).1; clear hx5; go_simp; try with_reducible rfl
         simp only [Act.put, zA, zB, zC]
         refine tk22 (v := ?_) (by kernel_rfl) (by kernel_rfl) (by kernel_rfl) (fun _ _ _ h => h) (Or.inl ⟨by first | rfl | (simp [Region.wanted, yielded]; done), ?_⟩) hS ?_
         rotate_left
         ·intro w' hSw; obtain ⟨hx5, sj1, sj6⟩ := hSw; have s1 := (hx5.out 1 _ f1.out).1; have s6 := (hx5.out 6 _ f6.out).1; clear hx5; go_simp; try with_reducible rfl
         simp only [Act.put, zA, zB, zC]
         refine tk23 (v := ?_) (by kernel_rfl) (by kernel_rfl) (by kernel_rfl) (fun _ _ _ h => h) (Or.inl ⟨by first | rfl | (simp [Region.wanted, yielded]; done), ?_⟩) hS ?_
         rotate_left
         ·intro w' hSw; obtain ⟨hx5, sj1, sj6⟩ := hSw; have s1 := (hx5.out 1 _ f1.out).1; have s6 := (hx5.out 6 _ f6.out).1; clear hx5; go_simp; try with_reducible rfl
         simp only [Act.put, zA, zB, zC]
         refine tk24 (v := ?_) (by kernel_rfl) (by kernel_rfl) (by kernel_rfl) (fun _ _ _ h => h) (Or.inl ⟨by first | rfl | (simp [Region.wanted, yielded]; done), ?_⟩) hS ?_
         rotate_left
         ·intro w' hSw; obtain ⟨hx5, sj1, sj6⟩ := hSw; have s1 := (hx5.out 1 _ f1.out).1; have s6 := (hx5.out 6 _ f6.out).1; clear hx5; go_simp; try with_reducible rfl
         simp only [Act.put, zA, zB, zC]
         refine tk25 (v := ?_) (by kernel_rfl) (by kernel_rfl) (by kernel_rfl) (fun _ _ _ h => h) (Or.inl ⟨by first | rfl | (simp [Region.wanted, yielded]; done), ?_⟩) hS ?_
         rotate_left
         ·intro w' hSw; obtain ⟨hx5, sj1, sj6⟩ := hSw; have s1 := (hx5.out 1 _ f1.out).1; have s6 := (hx5.out 6 _ f6.out).1; clear hx5; go_simp; try with_reducible rfl
         simp only [Act.put, zA, zB, zC]
         refine tk26 (v := ?_) (by kernel_rfl) (by kernel_rfl) (by kernel_rfl) (fun _ _ _ h => h) (Or.inl ⟨by first | rfl | (simp [Region.wanted, yielded]; done), ?_⟩) hS ?_
         rotate_left
         ·intro w' hSw; obtain ⟨hx5, sj1, sj6⟩ := hSw; have s1 := (hx5.out 1 _ f1.out).1; have s6 := (hx5.out 6 _ f6.out).1; clear hx5; go_simp; try with_reducible rfl
         simp only [Act.put, zA, zB, zC]
         refine tk27 (v := ?_) (by kernel_rfl) (by kernel_rfl) (by kernel_rfl) (fun _ _ _ h => h) (Or.inl ⟨by first | rfl | (simp [Region.wanted, yielded]; done), ?_⟩) hS ?_
         rotate_left
         ·intro w' hSw; obtain ⟨hx5, sj1, sj6⟩ := hSw; have s1 := (hx5.out 1 _ f1.out).1; have s6 := (hx5.out 6 _ f6.out).1; clear hx5; go_simp; try with_reducible rfl
         simp only [Act.put, zA, zB, zC]
         refine tk28 (v := .bool true) (by kernel_rfl) (by kernel_rfl) (by kernel_rfl) (fun _ _ _ h => h) (Or.inl ⟨by first | rfl | (simp [Region.wanted, yielded]; done), ?_⟩) hS ?_
         ·intro w' hSw
          clear hSw; go_simp; first | done | with_reducible rfl | (simp_all; done) | trace_state
         simp only [Act.put, zA, zB, zC]
         refine tk29 (v := ?_) (by kernel_rfl) (by kernel_rfl) (by kernel_rfl) (fun _ _ _ h => h) (Or.inl ⟨by first | rfl | (simp [Region.wanted, yielded]; done), ?_⟩) hS ?_
         rotate_left
         ·intro w' hSw; obtain ⟨hx5, sj1, sj6⟩ := hSw; have s1 := (hx5.out 1 _ f1.out).1; have s6 := (hx5.out 6 _ f6.out).1; clear hx5; go_simp; try with_reducible rfl
         simp only [Act.put, zA, zB, zC]
         refine tk30 (v := ?_) (by kernel_rfl) (by kernel_rfl) (by kernel_rfl) (fun _ _ _ h => h) (Or.inl ⟨by first | rfl | (simp [Region.wanted, yielded]; done), ?_⟩) hS ?_
         rotate_left
         ·intro w' hSw; obtain ⟨hx5, sj1, sj6⟩ := hSw; have s1 := (hx5.out 1 _ f1.out).1; have s6 := (hx5.out 6 _ f6.out).1; clear hx5; go_simp; try with_reducible rfl
         simp only [Act.put, zA, zB, zC]
         refine tk31 (v := ?_) (by kernel_rfl) (by kernel_rfl) (by kernel_rfl) (fun _ _ _ h => h) (Or.inl ⟨by first | rfl | (simp [Region.wanted, yielded]; done), ?_⟩) hS ?_
         rotate_left
         ·intro w' hSw; obtain ⟨hx5, sj1, sj6⟩ := hSw; have s1 := (hx5.out 1 _ f1.out).1; have s6 := (hx5.out 6 _ f6.out).1; clear hx5; go_simp; try with_reducible rfl
         simp only [Act.put, zA, zB, zC]
         refine wpAnyH_done (by kernel_rfl) ?_ _
         clear hS
         go_wp2_with fail
         go_ret
         exact ⟨ret_int HR5.out.symm, BB2.out⟩
       ·have hwv := wrap_ver hiv (by omega) hvj
        have HR5 : Hid (R = 6) := by show _ = _; rw [HR4.out, if_neg (fun h => hvj h.1)]
        clear hvj hiv
        go_wp2_with fail
        have hb := (Below.refl V.heap.size V).drew
        have BB2 := Lib.hid (BB.out.trans (hb.mono BB.out.size))
        have hS : Hid (BoxL V.drew w.heap.size l) ∧ V.drew.cell? ⟨br, orr + j * 28 + 1, none⟩ = some (.int .i64 vj) ∧ V.drew.cell? ⟨br, orr + j * 28 + 6, none⟩ = some (.int .i64 kj) := ⟨Lib.hid (X5.out.bel hpl hb), (hb.cell (World.block_lt_of_cell? _ _ zj1)).trans zj1, (hb.cell (World.block_lt_of_cell? _ _ zj6)).trans zj6⟩
        refine wp_region_held (S := fun w' : World => Hid (BoxL w' w.heap.size l) ∧ w'.cell? ⟨br, orr + j * 28 + 1, none⟩ = some (.int .i64 vj) ∧ w'.cell? ⟨br, orr + j * 28 + 6, none⟩ = some (.int .i64 kj)) mixed ?_
        change wpAnyH _ _ _ _ _ _ _ _ V.drew
        clear hb
        generalize V.drew = U9 at *
        refine tk0 (v := ?_) (by kernel_rfl) (by kernel_rfl) (by kernel_rfl) (fun _ _ _ h => h) (Or.inl ⟨by first | rfl | (simp [Region.wanted, yielded]; done), ?_⟩) hS ?_
        rotate_left
        ·intro w' hSw; obtain ⟨hx5, sj1, sj6⟩ := hSw; have s1 := (hx5.out 1 _ f1.out).1; have s6 := (hx5.out 6 _ f6.out).1; clear hx5; go_simp; try with_reducible rfl
        simp only [Act.put, zA, zB, zC]
        refine tk1 (v := .bool false) (by kernel_rfl) (by kernel_rfl) (by kernel_rfl) (fun _ _ _ h => h) (Or.inl ⟨by first | rfl | (simp [Region.wanted, yielded]; done), ?_⟩) hS ?_
        ·intro w' hSw
         clear hSw; go_simp; first | done | with_reducible rfl | exact hwv | (simp_all; done) | trace_state
        simp only [Act.put, zA, zB, zC]
        refine tk2 (v := ?_) (by kernel_rfl) (by kernel_rfl) (by kernel_rfl) (fun _ _ _ h => h) (Or.inl ⟨by first | rfl | (simp [Region.wanted, yielded]; done), ?_⟩) hS ?_
        rotate_left
        ·intro w' hSw; obtain ⟨hx5, sj1, sj6⟩ := hSw; have s1 := (hx5.out 1 _ f1.out).1; have s6 := (hx5.out 6 _ f6.out).1; clear hx5; go_simp; try with_reducible rfl
        simp only [Act.put, zA, zB, zC]
        refine tk3 (v := undef) (by kernel_rfl) (by kernel_rfl) (by kernel_rfl) (fun _ _ _ h => h) (Or.inr ⟨by rfl, rfl⟩) hS ?_
        simp only [Act.put, zA, zB, zC]
        refine tk4 (v := undef) (by kernel_rfl) (by kernel_rfl) (by kernel_rfl) (fun _ _ _ h => h) (Or.inr ⟨by rfl, rfl⟩) hS ?_
        simp only [Act.put, zA, zB, zC]
        refine tk5 (v := undef) (by kernel_rfl) (by kernel_rfl) (by kernel_rfl) (fun _ _ _ h => h) (Or.inr ⟨by rfl, rfl⟩) hS ?_
        simp only [Act.put, zA, zB, zC]
        refine tk6 (v := ?_) (by kernel_rfl) (by kernel_rfl) (by kernel_rfl) (fun _ _ _ h => h) (Or.inl ⟨by first | rfl | (simp [Region.wanted, yielded]; done), ?_⟩) hS ?_
        rotate_left
        ·intro w' hSw; obtain ⟨hx5, sj1, sj6⟩ := hSw; have s1 := (hx5.out 1 _ f1.out).1; have s6 := (hx5.out 6 _ f6.out).1; clear hx5; go_simp; try with_reducible rfl
        simp only [Act.put, zA, zB, zC]
        refine tk7 (v := ?_) (by kernel_rfl) (by kernel_rfl) (by kernel_rfl) (fun _ _ _ h => h) (Or.inl ⟨by first | rfl | (simp [Region.wanted, yielded]; done), ?_⟩) hS ?_
        rotate_left
        ·intro w' hSw; obtain ⟨hx5, sj1, sj6⟩ := hSw; have s1 := (hx5.out 1 _ f1.out).1; have s6 := (hx5.out 6 _ f6.out).1; clear hx5; go_simp; try with_reducible rfl
        simp only [Act.put, zA, zB, zC]
        refine tk8 (v := ?_) (by kernel_rfl) (by kernel_rfl) (by kernel_rfl) (fun _ _ _ h => h) (Or.inl ⟨by first | rfl | (simp [Region.wanted, yielded]; done), ?_⟩) hS ?_
        rotate_left
        ·intro w' hSw; obtain ⟨hx5, sj1, sj6⟩ := hSw; have s1 := (hx5.out 1 _ f1.out).1; have s6 := (hx5.out 6 _ f6.out).1; clear hx5; go_simp; try with_reducible rfl
        simp only [Act.put, zA, zB, zC]
        refine tk9 (v := .bool true) (by kernel_rfl) (by kernel_rfl) (by kernel_rfl) (fun _ _ _ h => h) (Or.inl ⟨by first | rfl | (simp [Region.wanted, yielded]; done), ?_⟩) hS ?_
        ·intro w' hSw
         clear hSw; go_simp; first | done | with_reducible rfl | exact hwv | (simp_all; done) | trace_state
        simp only [Act.put, zA, zB, zC]
        refine tk10 (v := ?_) (by kernel_rfl) (by kernel_rfl) (by kernel_rfl) (fun _ _ _ h => h) (Or.inl ⟨by first | rfl | (simp [Region.wanted, yielded]; done), ?_⟩) hS ?_
        rotate_left
        ·intro w' hSw; obtain ⟨hx5, sj1, sj6⟩ := hSw; have s1 := (hx5.out 1 _ f1.out).1; have s6 := (hx5.out 6 _ f6.out).1; clear hx5; go_simp; try with_reducible rfl
        simp only [Act.put, zA, zB, zC]
        refine tk11 (v := ?_) (by kernel_rfl) (by kernel_rfl) (by kernel_rfl) (fun _ _ _ h => h) (Or.inl ⟨by first | rfl | (simp [Region.wanted, yielded]; done), ?_⟩) hS ?_
        rotate_left
        ·intro w' hSw; obtain ⟨hx5, sj1, sj6⟩ := hSw; have s1 := (hx5.out 1 _ f1.out).1; have s6 := (hx5.out 6 _ f6.out).1; clear hx5; go_simp; try with_reducible rfl
        simp only [Act.put, zA, zB, zC]
        refine tk12 (v := ?_) (by kernel_rfl) (by kernel_rfl) (by kernel_rfl) (fun _ _ _ h => h) (Or.inl ⟨by first | rfl | (simp [Region.wanted, yielded]; done), ?_⟩) hS ?_
        rotate_left
        ·intro w' hSw; obtain ⟨hx5, sj1, sj6⟩ := hSw; have s1 := (hx5.out 1 _ f1.out).1; have s6 := (hx5.out 6 _ f6.out).1; clear hx5; go_simp; try with_reducible rfl
        simp only [Act.put, zA, zB, zC]
        refine tk13 (v := ?_) (by kernel_rfl) (by kernel_rfl) (by kernel_rfl) (fun _ _ _ h => h) (Or.inl ⟨by first | rfl | (simp [Region.wanted, yielded]; done), ?_⟩) hS ?_
        rotate_left
        ·intro w' hSw; obtain ⟨hx5, sj1, sj6⟩ := hSw; have s1 := (hx5.out 1 _ f1.out).1; have s6 := (hx5.out 6 _ f6.out).1; clear hx5; go_simp; try with_reducible rfl
        simp only [Act.put, zA, zB, zC]
        refine tk14 (v := ?_) (by kernel_rfl) (by kernel_rfl) (by kernel_rfl) (fun _ _ _ h => h) (Or.inl ⟨by first | rfl | (simp [Region.wanted, yielded]; done), ?_⟩) hS ?_
        rotate_left
        ·intro w' hSw; obtain ⟨hx5, sj1, sj6⟩ := hSw; have s1 := (hx5.out 1 _ f1.out).1; have s6 := (hx5.out 6 _ f6.out).1; clear hx5; go_simp; try with_reducible rfl
        simp only [Act.put, zA, zB, zC]
        refine tk15 (v := ?_) (by kernel_rfl) (by kernel_rfl) (by kernel_rfl) (fun _ _ _ h => h) (Or.inl ⟨by first | rfl | (simp [Region.wanted, yielded]; done), ?_⟩) hS ?_
        rotate_left
        ·intro w' hSw; obtain ⟨hx5, sj1, sj6⟩ := hSw; have s1 := (hx5.out 1 _ f1.out).1; have s6 := (hx5.out 6 _ f6.out).1; clear hx5; go_simp; try with_reducible rfl
        simp only [Act.put, zA, zB, zC]
        refine tk16 (v := ?_) (by kernel_rfl) (by kernel_rfl) (by kernel_rfl) (fun _ _ _ h => h) (Or.inl ⟨by first | rfl | (simp [Region.wanted, yielded]; done), ?_⟩) hS ?_
        rotate_left
        ·intro w' hSw; obtain ⟨hx5, sj1, sj6⟩ := hSw; have s1 := (hx5.out 1 _ f1.out).1; have s6 := (hx5.out 6 _ f6.out).1; clear hx5; go_simp; try with_reducible rfl
        simp only [Act.put, zA, zB, zC]
        refine tk17 (v := ?_) (by kernel_rfl) (by kernel_rfl) (by kernel_rfl) (fun _ _ _ h => h) (Or.inl ⟨by first | rfl | (simp [Region.wanted, yielded]; done), ?_⟩) hS ?_
        rotate_left
        ·intro w' hSw; obtain ⟨hx5, sj1, sj6⟩ := hSw; have s1 := (hx5.out 1 _ f1.out).1; have s6 := (hx5.out 6 _ f6.out).1; clear hx5; go_simp; try with_reducible rfl
        simp only [Act.put, zA, zB, zC]
        refine tk18 (v := ?_) (by kernel_rfl) (by kernel_rfl) (by kernel_rfl) (fun _ _ _ h => h) (Or.inl ⟨by first | rfl | (simp [Region.wanted, yielded]; done), ?_⟩) hS ?_
        rotate_left
        ·intro w' hSw; obtain ⟨hx5, sj1, sj6⟩ := hSw; have s1 := (hx5.out 1 _ f1.out).1; have s6 := (hx5.out 6 _ f6.out).1; clear hx5; go_simp; try with_reducible rfl
        simp only [Act.put, zA, zB, zC]
        refine tk19 (v := .bool true) (by kernel_rfl) (by kernel_rfl) (by kernel_rfl) (fun _ _ _ h => h) (Or.inl ⟨by first | rfl | (simp [Region.wanted, yielded]; done), ?_⟩) hS ?_
        ·intro w' hSw
         clear hSw; go_simp; first | done | with_reducible rfl | exact hwv | (simp_all; done) | trace_state
        simp only [Act.put, zA, zB, zC]
        refine tk20 (v := ?_) (by kernel_rfl) (by kernel_rfl) (by kernel_rfl) (fun _ _ _ h => h) (Or.inl ⟨by first | rfl | (simp [Region.wanted, yielded]; done), ?_⟩) hS ?_
        rotate_left
        ·intro w' hSw; obtain ⟨hx5, sj1, sj6⟩ := hSw; have s1 := (hx5.out 1 _ f1.out).1; have s6 := (hx5.out 6 _ f6.out).1; clear hx5; go_simp; try with_reducible rfl
        simp only [Act.put, zA, zB, zC]
        refine tk21 (v := undef) (by kernel_rfl) (by kernel_rfl) (by kernel_rfl) (fun _ _ _ h => h) (Or.inr ⟨by rfl, rfl⟩) hS ?_
        simp only [Act.put, zA, zB, zC]
        refine tk22 (v := undef) (by kernel_rfl) (by kernel_rfl) (by kernel_rfl) (fun _ _ _ h => h) (Or.inr ⟨by rfl, rfl⟩) hS ?_
        simp only [Act.put, zA, zB, zC]
        refine tk23 (v := undef) (by kernel_rfl) (by kernel_rfl) (by kernel_rfl) (fun _ _ _ h => h) (Or.inr ⟨by rfl, rfl⟩) hS ?_
        simp only [Act.put, zA, zB, zC]
        refine tk24 (v := undef) (by kernel_rfl) (by kernel_rfl) (by kernel_rfl) (fun _ _ _ h => h) (Or.inr ⟨by rfl, rfl⟩) hS ?_
        simp only [Act.put, zA, zB, zC]
        refine tk25 (v := undef) (by kernel_rfl) (by kernel_rfl) (by kernel_rfl) (fun _ _ _ h => h) (Or.inr ⟨by rfl, rfl⟩) hS ?_
        simp only [Act.put, zA, zB, zC]
        refine tk26 (v := undef) (by kernel_rfl) (by kernel_rfl) (by kernel_rfl) (fun _ _ _ h => h) (Or.inr ⟨by rfl, rfl⟩) hS ?_
        simp only [Act.put, zA, zB, zC]
        refine tk27 (v := undef) (by kernel_rfl) (by kernel_rfl) (by kernel_rfl) (fun _ _ _ h => h) (Or.inr ⟨by rfl, rfl⟩) hS ?_
        simp only [Act.put, zA, zB, zC]
        refine tk28 (v := undef) (by kernel_rfl) (by kernel_rfl) (by kernel_rfl) (fun _ _ _ h => h) (Or.inr ⟨by rfl, rfl⟩) hS ?_
        simp only [Act.put, zA, zB, zC]
        refine tk29 (v := ?_) (by kernel_rfl) (by kernel_rfl) (by kernel_rfl) (fun _ _ _ h => h) (Or.inl ⟨by first | rfl | (simp [Region.wanted, yielded]; done), ?_⟩) hS ?_
        rotate_left
        ·intro w' hSw; obtain ⟨hx5, sj1, sj6⟩ := hSw; have s1 := (hx5.out 1 _ f1.out).1; have s6 := (hx5.out 6 _ f6.out).1; clear hx5; go_simp; try with_reducible rfl
        simp only [Act.put, zA, zB, zC]
        refine tk30 (v := ?_) (by kernel_rfl) (by kernel_rfl) (by kernel_rfl) (fun _ _ _ h => h) (Or.inl ⟨by first | rfl | (simp [Region.wanted, yielded]; done), ?_⟩) hS ?_
        rotate_left
        ·intro w' hSw; obtain ⟨hx5, sj1, sj6⟩ := hSw; have s1 := (hx5.out 1 _ f1.out).1; have s6 := (hx5.out 6 _ f6.out).1; clear hx5; go_simp; try with_reducible rfl
        simp only [Act.put, zA, zB, zC]
        refine tk31 (v := ?_) (by kernel_rfl) (by kernel_rfl) (by kernel_rfl) (fun _ _ _ h => h) (Or.inl ⟨by first | rfl | (simp [Region.wanted, yielded]; done), ?_⟩) hS ?_
        rotate_left
        ·intro w' hSw; obtain ⟨hx5, sj1, sj6⟩ := hSw; have s1 := (hx5.out 1 _ f1.out).1; have s6 := (hx5.out 6 _ f6.out).1; clear hx5; go_simp; try with_reducible rfl
        simp only [Act.put, zA, zB, zC]
        refine wpAnyH_done (by kernel_rfl) ?_ _
        clear hS
        go_wp2_with fail
        go_ret
        exact ⟨ret_int HR5.out.symm, BB2.out⟩
     | false =>
      have HR3 : Hid (R = 13) := by show _ = _; rw [HR2.out]; rfl
      go_wp2_with fail
      go_ret
      exact ⟨ret_int HR3.out.symm, BB.out⟩
end Go.Proofs.Ytoaonficdkgfiaa
