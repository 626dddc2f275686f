/- Texts on units: RFor RDec RDcs -/
import Derived.Test.YtoaonficdkgfiaaY19
import Derived.Test.YtoaonficdkgfiaaY20
import Derived.Test.YtoaonficdkgfiaaY10
namespace Go.Proofs.Ytoaonficdkgfiaa
open Go.RowKit Un

set_option maxRecDepth 100000 in
set_option maxHeartbeats 8000000 in
theorem rformed_any (L : List Dc) (p : Option Addr) (b off c : Nat) (w : World) (hS : SlR w p b off L.length 8 (L.map dC)) :
  Calls Try.prog 47 #[.slice p L.length c] w fun e w' => e = .returned (.bool (formD L)) ∧ RowKit.Below w.heap.size w w' := by
 have HB := Lib.hid (Below.refl w.heap.size w)
 have KN := Lib.hid rName_any
 have KB := Lib.hid rbasic_any
 have HS := Lib.hid hS
 have hmax := hS.max
 obtain ⟨R, hR⟩ : ∃ R, R = formD L := ⟨_, rfl⟩
 rw [← hR]
 have HR := Lib.hid hR
 clear hR hS
 by_cases hl : 12 < L.length
 ·have hz : (12 : Int) < (L.length : Int) := by omega
  have HRF : Hid (R = false) := by show _ = _; rw [HR.out, formD, decide_eq_false (by omega)]; rfl
  go_enter Try.func47, Try.ntmps47
  go_wp2_with fail
  go_ret
  exact ⟨ret_bool HRF.out.symm, HB.out⟩
 ·have hz : ¬ (12 : Int) < (L.length : Int) := by omega
  have HRF : Hid (R = L.all fun d => isName d.nm && basic d.u) := by show _ = _; rw [HR.out, formD, decide_eq_true (by omega), Bool.true_and]
  clear HR
  go_enter Try.func47, Try.ntmps47
  go_wp2_with fail
  clear hz
  go_loopg [3] L.length (fun g v3 wr => ∃ i : Nat, i ≤ L.length ∧ L.length - i ≤ g ∧ v3 = .int .i64 i ∧ Hid (R = (L.drop i).all fun d => isName d.nm && basic d.u) ∧ Hid (RowKit.Below w.heap.size w wr))
  case atStart => exact ⟨0, Nat.zero_le _, by omega, by simp, HRF, HB⟩
  case round =>
   obtain ⟨i, hi, hg, rfl, HM, HW⟩ := hrel
   have hws := HW.out.size
   by_cases hlt : i < L.length
   ·have hz : (i : Int) < (L.length : Int) := by omega
    have hq := HS.out.ptr (by omega)
    subst hq
    have hr := (HS.out.bel HW.out).at_ i (dC L[i]) (by rw [List.getElem?_map, List.getElem?_eq_getElem hlt]; rfl)
    have E3 : Hid (R = ((isName L[i].nm && basic L[i].u) && (L.drop (i + 1)).all fun d => isName d.nm && basic d.u)) := by
     show _ = _
     rw [HM.out, List.drop_eq_getElem_cons hlt]
     rfl
    clear HM
    generalize L[i] = d at *
    obtain ⟨nm, ⟨uf, um, ua, ud⟩, lo, hi', pl⟩ := d
    simp only [dC] at hr
    have hc := hr.2
    have z0 := hc 0 _ rfl
    have z1 := hc 1 _ rfl
    have z2 := hc 2 _ rfl
    have z3 := hc 3 _ rfl
    have z4 := hc 4 _ rfl
    rw [Nat.add_zero] at z0
    have e2 : IntKind.i64.wrap ((i : Int) + 1) = ((i + 1 : Nat) : Int) := by rw [IntWalk.i64_in _ (by omega)]; rfl
    have K1 := Lib.hid (KN.out nm)
    have K2 := Lib.hid (KB.out ⟨uf, um, ua, ud⟩)
    simp only at E3 K2
    clear hc hr
    generalize bs nm = s at *
    generalize isName nm = a at *
    generalize basic ⟨uf, um, ua, ud⟩ = bb at *
    go_wp2_with fail
    refine (K1.out _).mono ?_
    rintro _ v ⟨rfl, hb⟩
    have HW2 := Lib.hid (HW.out.trans (hb.mono HW.out.size))
    replace z1 := (hb.cell (World.block_lt_of_cell? _ _ z1)).trans z1
    replace z2 := (hb.cell (World.block_lt_of_cell? _ _ z2)).trans z2
    replace z3 := (hb.cell (World.block_lt_of_cell? _ _ z3)).trans z3
    replace z4 := (hb.cell (World.block_lt_of_cell? _ _ z4)).trans z4
    clear hb z0
    go_wp2_with fail
    refine (K2.out _).mono ?_
    rintro _ v2 ⟨rfl, hb⟩
    have HW3 := Lib.hid (HW2.out.trans (hb.mono HW2.out.size))
    clear hb z1 z2 z3 z4
    cases a with
    | false =>
     go_wp2_with fail
     go_ret
     exact ⟨ret_bool (by rw [E3.out]; simp), HW3.out⟩
    | true =>
     cases bb with
     | false =>
      go_wp2_with fail
      go_ret
      exact ⟨ret_bool (by rw [E3.out]; simp), HW3.out⟩
     | true =>
      go_wp2_with fail
      all_goals
       go_roundg (L.length - (i + 1))
       case measure => omega
       case rel => exact ⟨i + 1, by omega, Nat.le_refl _, by simp, by show _ = _; rw [E3.out]; simp, HW3⟩
   ·have hz : ¬ (i : Int) < (L.length : Int) := by omega
    have hie : i = L.length := by omega
    subst hie
    go_wp2_with fail
    go_ret
    exact ⟨ret_bool (by rw [HM.out, List.drop_length]; rfl), HW.out⟩
end Go.Proofs.Ytoaonficdkgfiaa
namespace Go.Proofs.Ytoaonficdkgfiaa
open Go.RowKit Un

/-- A declaration is right, with the earlier ones. -/
def okD (L : List Dc) (i : Nat) : Prop := ∀ h : i < L.length, (∀ k (hk : k < i), (L[k]'(by omega)).nm ≠ L[i].nm) ∧ ∀ k (hk : k ≤ i), bounded (L[k]'(by omega)) = true ∧ prodC (L.take (k + 1)) ≤ 4096
theorem errsD_nil : ∀ (l pre : List Dc), errsD pre l = [] ↔ ∀ i (h : i < l.length), errD (pre ++ l.take i) (prodC (pre ++ l.take i)) l[i] = 0
 | [], pre => by simp [errsD]
 | d :: l, pre => by
  simp only [errsD, List.append_eq_nil_iff, errsD_nil l (pre ++ [d])]
  constructor
  ·rintro ⟨h1, h2⟩ i hi
   cases i with
   | zero =>
    simp only [List.take_zero, List.append_nil, List.getElem_cons_zero]
    split at h1
    ·assumption
    ·cases h1
   | succ i =>
    have := h2 i (by simpa using hi)
    simpa [List.append_assoc] using this
  ·intro h
   refine ⟨?_, fun i hi => ?_⟩
   ·have := h 0 (by simp)
    simp only [List.take_zero, List.append_nil, List.getElem_cons_zero] at this
    rw [if_pos this]
   ·have := h (i + 1) (by simpa using hi)
    simpa [List.append_assoc] using this
theorem errD_zero (pre : List Dc) (c : Int) (d : Dc) : errD pre c d = 0 ↔ (∀ e ∈ pre, e.nm ≠ d.nm) ∧ bounded d = true ∧ cases1 c d ≤ 4096 := by
 unfold errD
 constructor
 ·intro h
  split at h
  ·cases h
  ·rename_i h1
   split at h
   ·cases h
   ·rename_i h2
    split at h
    ·cases h
    ·rename_i h3
     refine ⟨fun e he hn => h1 (List.any_eq_true.2 ⟨e, he, by simpa using hn⟩), by simpa using h2, by omega⟩
 ·rintro ⟨h1, h2, h3⟩
  rw [if_neg, if_neg (by simpa using h2), if_neg (by omega)]
  intro h
  obtain ⟨e, he, hn⟩ := List.any_eq_true.1 h
  exact h1 e he (by simpa using hn)
theorem okD_all (L : List Dc) : errsD [] L = [] ↔ ∀ i, i < L.length → okD L i := by
 rw [errsD_nil]
 simp only [List.nil_append]
 constructor
 ·intro h i _ hi
  refine ⟨fun k hk e => ?_, fun k hk => ?_⟩
  ·have := ((errD_zero _ _ _).1 (h i hi)).1 (L[k]'(by omega)) (by
    rw [List.mem_take_iff_getElem]
    exact ⟨k, by omega, rfl⟩)
   exact this e
  ·have := (errD_zero _ _ _).1 (h k (by omega))
   refine ⟨this.2.1, ?_⟩
   rw [List.take_succ_eq_append_getElem (by omega), prodC_snoc]
   exact this.2.2
 ·intro h i hi
  have h1 := h i hi hi
  refine (errD_zero _ _ _).2 ⟨fun e he => ?_, (h1.2 i (Nat.le_refl _)).1, ?_⟩
  ·rw [List.mem_take_iff_getElem] at he
   obtain ⟨k, hk, rfl⟩ := he
   exact h1.1 k (by omega)
  ·have := (h1.2 i (Nat.le_refl _)).2
   rwa [List.take_succ_eq_append_getElem hi, prodC_snoc] at this
theorem okD_of {L : List Dc} {i : Nat} (hi : i < L.length) (h1 : ∀ k d, k < i → L[k]? = some d → d.nm ≠ L[i].nm) (h2 : ∀ k d, k < i + 1 → L[k]? = some d → bounded d = true ∧ prodC (L.take (k + 1)) ≤ 4096) : okD L i := fun _ =>
 ⟨fun k hk => h1 k _ hk (List.getElem?_eq_getElem (by omega)), fun k hk => h2 k _ (by omega) (List.getElem?_eq_getElem (by omega))⟩
set_option maxRecDepth 100000 in
set_option maxHeartbeats 12000000 in
theorem rdecl_any (L : List Dc) (p : Option Addr) (b off c : Nat) (i : Nat) (hi : i < L.length) (w : World) (hS : SlR w p b off L.length 8 (L.map dC)) :
  Calls Try.prog 48 #[.slice p L.length c, .int .i64 (i : Nat)] w fun e w' => ∃ e0, e = .returned (.int .i64 e0) ∧ (e0 = 0 ↔ okD L i) ∧ RowKit.Below w.heap.size w w' := by
 have HB := Lib.hid (Below.refl w.heap.size w)
 have KB := Lib.hid (fun (d : Dc) w => rbounds_any (bs d.nm) d.u d.lo d.hi d.pl w)
 have HS := Lib.hid hS
 have hmax := hS.max
 have hq := hS.ptr (by omega)
 subst hq
 have HO : Hid (∀ k d, k < L.length → L[k]? = some d → k ≤ i → okD L i → (k < i → d.nm ≠ L[i].nm) ∧ bounded d = true ∧ prodC (L.take (k + 1)) ≤ 4096) := fun k d hk hd hki h => by
  have := h hi
  obtain ⟨h1, rfl⟩ := List.getElem?_eq_some_iff.1 hd
  exact ⟨fun hl => this.1 k hl, this.2 k hki⟩
 have HOK : Hid ((∀ k d, k < i → L[k]? = some d → d.nm ≠ L[i].nm) → (∀ k d, k < i + 1 → L[k]? = some d → bounded d = true ∧ prodC (L.take (k + 1)) ≤ 4096) → okD L i) := fun h1 h2 => okD_of hi h1 h2
 have hrc : ∀ (V : World), RowKit.Below w.heap.size w V → ∀ k (hk : k < L.length) (j : Nat) (v : Value), (dC L[k])[j]? = some v → V.cell? ⟨b, off + k * 8 + j, none⟩ = some v := fun V hV k hk => ((HS.out.bel hV).at_ k (dC L[k]) (by rw [List.getElem?_map, List.getElem?_eq_getElem hk]; rfl)).2
 have HRC := Lib.hid hrc
 clear hrc hS
 obtain ⟨di, hdi⟩ : ∃ di, di = L[i] := ⟨_, rfl⟩
 rw [← hdi] at HO HOK
 have HDI := Lib.hid hdi
 clear hdi
 go_enter Try.func48, Try.ntmps48
 go_wp2_with fail
 go_loopg [5] i (fun g v5 wr => ∃ k : Nat, k ≤ i ∧ i - k ≤ g ∧ v5 = .int .i64 (k : Nat) ∧ Hid (∀ k' d, k' < k → L[k']? = some d → d.nm ≠ di.nm) ∧ Hid (RowKit.Below w.heap.size w wr))
 case atStart => exact ⟨0, Nat.zero_le _, by omega, by simp, fun k' d h => absurd h (Nat.not_lt_zero _), HB⟩
 case round =>
  obtain ⟨k, hk, hg, rfl, HM, HW⟩ := hrel
  by_cases hlt : k < i
  ·have hz : (k : Int) < (i : Int) := by omega
   have hkL : k < L.length := by omega
   have zk := HRC.out wr HW.out k hkL 0 _ rfl
   have zi := HRC.out wr HW.out i hi 0 _ rfl
   simp only [Nat.add_zero] at zk zi
   have hz1 : (k : Int) < (L.length : Int) := by omega
   have hz2 : (i : Int) < (L.length : Int) := by omega
   have hdk : L[k]? = some L[k] := List.getElem?_eq_getElem hkL
   have E1 : Hid (L[k].nm ≠ di.nm → ∀ k' d, k' < k + 1 → L[k']? = some d → d.nm ≠ di.nm) := fun h k' d hk' hd => by
    by_cases e : k' = k
    ·subst e; rw [hdk] at hd; cases hd; exact h
    ·exact HM.out k' d (by omega) hd
   have E2 : Hid (L[k].nm = di.nm → ¬ okD L i) := fun h ho => (HO.out k _ hkL hdk (by omega) ho).1 hlt h
   rw [← HDI.out] at zi
   have e1 : ((bs L[k].nm).toList == (bs di.nm).toList) = (L[k].nm == di.nm) := by rw [bs_list, bs_list]
   have e2 : IntKind.i64.wrap ((k : Int) + 1) = ((k + 1 : Nat) : Int) := by rw [IntWalk.i64_in _ (by omega)]; rfl
   clear hdk
   generalize L[k].nm = nk at *
   by_cases hnn : nk = di.nm
   ·have e3 : ((bs nk).toList == (bs di.nm).toList) = true := by rw [e1]; simpa using hnn
    have HX := Lib.hid (E2.out hnn)
    clear E1 E2 e1 hnn
    generalize bs nk = s1 at *
    generalize bs di.nm = s2 at *
    go_wp2_with fail
    go_quiet (fail)
    go_wp2_with fail
    go_ret
    exact ⟨5, rfl, ⟨fun h => absurd h (by omega), fun h => absurd h HX.out⟩, below_drewN HW.out _⟩
   ·have e3 : ((bs nk).toList == (bs di.nm).toList) = false := by rw [e1]; simpa using hnn
    have HX := Lib.hid (E1.out hnn)
    clear E1 E2 e1 hnn
    generalize bs nk = s1 at *
    generalize bs di.nm = s2 at *
    go_wp2_with fail
    go_quiet (fail)
    go_wp2_with fail
    go_roundg (i - (k + 1))
    case measure => omega
    case rel => exact ⟨k + 1, by omega, Nat.le_refl _, by simp, HX, by show RowKit.Below _ _ _; exact below_drewN HW.out _⟩
  ·have hz : ¬ (k : Int) < (i : Int) := by omega
   have hki : k = i := by omega
   rw [hki] at HM
   clear hlt hg
   go_wp2_with fail
   clear hz hki hk
   go_loopg [6, 7] (i + 1) (fun g v6 v7 wq => ∃ k : Nat, k ≤ i + 1 ∧ i + 1 - k ≤ g ∧ v7 = .int .i64 (k : Nat) ∧ v6 = .int .i64 (prodC (L.take k)) ∧ Hid (∀ k' d, k' < k → L[k']? = some d → bounded d = true ∧ prodC (L.take (k' + 1)) ≤ 4096) ∧ Hid (prodC (L.take k) ≤ 4096) ∧ Hid (RowKit.Below w.heap.size w wq))
   case atStart => exact ⟨0, Nat.zero_le _, by omega, by simp, rfl, fun k' d h => absurd h (Nat.not_lt_zero _), by show _ ≤ _; simp [prodC], HW⟩
   case round =>
    obtain ⟨q, hq, hg2, rfl, rfl, HP, HC, HV⟩ := hrel
    have hrg := prodC_rng (L.take q)
    by_cases hle : q ≤ i
    ·have hz : (q : Int) ≤ (i : Int) := by omega
     have hqL : q < L.length := by omega
     have hz1 : (q : Int) < (L.length : Int) := by omega
     have hdq : L[q]? = some L[q] := List.getElem?_eq_getElem hqL
     have hc := HRC.out _ HV.out q hqL
     have E1 : Hid (bounded L[q] = true → prodC (L.take (q + 1)) ≤ 4096 → ∀ k' d, k' < q + 1 → L[k']? = some d → bounded d = true ∧ prodC (L.take (k' + 1)) ≤ 4096) := fun h h' k' d hk' hd => by
      by_cases e : k' = q
      ·subst e; rw [hdq] at hd; cases hd; exact ⟨h, h'⟩
      ·exact HP.out k' d (by omega) hd
     have E2 : Hid (¬ (bounded L[q] = true ∧ prodC (L.take (q + 1)) ≤ 4096) → ¬ okD L i) := fun h ho => h (HO.out q _ hqL hdq hle ho).2
     have E3 : Hid (prodC (L.take (q + 1)) = cases1 (prodC (L.take q)) L[q]) := by show _ = _; rw [List.take_succ_eq_append_getElem hqL, prodC_snoc]
     have KQ := Lib.hid (KB.out L[q])
     have E4 : Hid (cases1 (prodC (L.take q)) L[q] = if bounded L[q] then min (prodC (L.take q) * (L[q].hi - L[q].lo + 1)) 4097 else prodC (L.take q)) := rfl
     have KQ2 : Hid (bounded L[q] = true → 1 ≤ L[q].hi - L[q].lo + 1 ∧ L[q].hi - L[q].lo + 1 ≤ 1000001 ∧ 0 ≤ L[q].lo ∧ L[q].hi ≤ 1000000) := fun h => by
      simp only [bounded, Bool.and_eq_true, decide_eq_true_eq] at h
      omega
     have KQ3 : Hid (∀ w, Calls Try.prog 65 #[.agg (dC L[q]).toArray] w fun e w' => e = .returned (.bool (bounded L[q])) ∧ RowKit.Below w.heap.size w w') := fun w => KQ.out w
     rw [E3.out] at E1 E2
     clear hdq KQ
     generalize L[q] = d at *
     generalize hcq : prodC (L.take q) = cq at *
     obtain ⟨nm, ⟨uf, um, ua, ud⟩, lo, hi', pl⟩ := d
     generalize bounded ⟨nm, ⟨uf, um, ua, ud⟩, lo, hi', pl⟩ = bd at *
     generalize hc1 : cases1 cq ⟨nm, ⟨uf, um, ua, ud⟩, lo, hi', pl⟩ = c1 at *
     simp only [dC] at hc KQ3
     simp only at KQ2 E4
     have z0 := hc 0 _ rfl
     have z1 := hc 1 _ rfl
     have z2 := hc 2 _ rfl
     have z3 := hc 3 _ rfl
     have z4 := hc 4 _ rfl
     have z5 := hc 5 _ rfl
     have z6 := hc 6 _ rfl
     have z7 := hc 7 _ rfl
     rw [Nat.add_zero] at z0
     have e2 : IntKind.i64.wrap ((q : Int) + 1) = ((q + 1 : Nat) : Int) := by rw [IntWalk.i64_in _ (by omega)]; rfl
     clear hc hc1
     generalize bs nm = s at *
     go_wp2_with fail
     refine (KQ3.out _).mono ?_
     rintro _ V ⟨rfl, hb⟩
     have HV2 := Lib.hid (HV.out.trans (hb.mono HV.out.size))
     replace z5 := (hb.cell (World.block_lt_of_cell? _ _ z5)).trans z5
     replace z6 := (hb.cell (World.block_lt_of_cell? _ _ z6)).trans z6
     clear hb z0 z1 z2 z3 z4 z7 KQ3
     cases bd with
     | false =>
      have HX := Lib.hid (E2.out (by rintro ⟨h, -⟩; cases h))
      go_wp2_with fail
      go_ret
      exact ⟨3, rfl, ⟨fun h => absurd h (by omega), fun h => absurd h HX.out⟩, HV2.out⟩
     | true =>
      obtain ⟨k1, k2, k3, k4⟩ := KQ2.out rfl
      have ew1 : IntKind.i64.wrap (hi' - lo) = hi' - lo := IntWalk.i64_in _ (by omega)
      have ew2 : IntKind.i64.wrap (hi' - lo + 1) = hi' - lo + 1 := IntWalk.i64_in _ (by omega)
      have hpr : 0 ≤ cq * (hi' - lo + 1) ∧ cq * (hi' - lo + 1) ≤ 4097 * 1000001 := ⟨Int.mul_nonneg (by omega) (by omega), Int.mul_le_mul hrg.2 k2 (by omega) (by omega)⟩
      obtain ⟨x, hx⟩ : ∃ x, x = cq * (hi' - lo + 1) := ⟨_, rfl⟩
      have ew3 : IntKind.i64.wrap (cq * (hi' - lo + 1)) = x := by rw [← hx] at hpr ⊢; exact IntWalk.i64_in _ (by omega)
      have E8 : c1 = min x 4097 := by rw [E4.out, hx]; rfl
      clear k1 k2 k3 k4 hpr hx
      by_cases hm : 4096 < x
      ·have HX := Lib.hid (E2.out (by rintro ⟨-, h⟩; omega))
       go_wp2_with fail
       go_quiet (fail)
       go_wp2_with fail
       go_ret
       exact ⟨2, rfl, ⟨fun h => absurd h (by omega), fun h => absurd h HX.out⟩, below_drewN HV2.out _⟩
      ·have hcx : c1 = x := by omega
       have HX := Lib.hid (E1.out rfl (by omega))
       have hc4 : Hid (c1 ≤ 4096) := by show _ ≤ _; omega
       go_wp2_with fail
       go_quiet (fail)
       go_wp2_with fail
       go_roundg (i + 1 - (q + 1))
       case measure => omega
       case rel => exact ⟨q + 1, by omega, Nat.le_refl _, by simp, by rw [E3.out, hcx], HX, by rw [E3.out]; exact hc4, by show RowKit.Below _ _ _; exact below_drewN HV2.out _⟩
    ·have hz : ¬ (q : Int) ≤ (i : Int) := by omega
     have hqi : q = i + 1 := by omega
     rw [hqi] at HP
     have HX := Lib.hid (HOK.out HM.out HP.out)
     go_wp2_with fail
     go_ret
     exact ⟨0, rfl, ⟨fun _ => HX.out, fun _ => rfl⟩, HV.out⟩
end Go.Proofs.Ytoaonficdkgfiaa
namespace Go.Proofs.Ytoaonficdkgfiaa
open Go.RowKit Un

set_option maxRecDepth 100000 in
set_option maxHeartbeats 8000000 in
theorem rDecls_any (L : List Dc) (p : Option Addr) (b off c : Nat) (w : World) (hS : SlR w p b off L.length 8 (L.map dC)) :
  Calls Try.prog 22 #[.slice p L.length c] w fun e w' => e = .returned (.bool (rightD L)) ∧ RowKit.Below w.heap.size w w' := by
 have KF := Lib.hid (rformed_any L p b off c w hS)
 have KD := Lib.hid (fun (i : Nat) (hi : i < L.length) V (h : RowKit.Below w.heap.size w V) => rdecl_any L p b off c i hi V (hS.bel h))
 have hmax := hS.max
 obtain ⟨R, hR⟩ : ∃ R, R = rightD L := ⟨_, rfl⟩
 rw [← hR]
 have HR : Hid (R = (formD L && (errsD [] L).isEmpty)) := hR
 have HI : Hid ((errsD [] L).isEmpty = true ↔ ∀ i, i < L.length → okD L i) := by show _ ↔ _; rw [List.isEmpty_iff]; exact okD_all L
 clear hR hS
 generalize (errsD [] L).isEmpty = em at *
 go_enter Try.func22, Try.ntmps22
 go_wp2_with fail
 refine KF.out.mono ?_
 rintro _ V ⟨rfl, hb⟩
 have HB := Lib.hid hb
 clear hb KF
 cases hf : formD L with
 | false =>
  have HR2 : Hid (R = false) := by show _ = _; rw [HR.out, hf]; rfl
  clear hf
  go_wp2_with fail
  go_loopg [3, 4] 0 (fun g v3 v4 wr => v3 = .bool false ∧ v4 = .int .i64 0 ∧ wr = V)
  case atStart => exact ⟨rfl, rfl, rfl⟩
  case round =>
   obtain ⟨rfl, rfl, rfl⟩ := hrel
   go_wp2_with fail
   go_ret
   exact ⟨ret_bool HR2.out.symm, HB.out⟩
 | true =>
  have HR2 : Hid (R = em) := by show _ = _; rw [HR.out, hf]; rfl
  clear hf HR
  go_wp2_with fail
  go_loopg [3, 4] (L.length + 1) (fun g v3 v4 wr => ∃ (i : Nat) (bb : Bool), i ≤ L.length ∧ L.length + 1 - i ≤ g ∧ v4 = .int .i64 (i : Nat) ∧ v3 = .bool bb ∧ Hid (bb = true → ∀ k, k < i → okD L k) ∧ Hid (bb = false → R = false) ∧ Hid (RowKit.Below w.heap.size w wr))
  case atStart => exact ⟨0, true, Nat.zero_le _, by omega, by simp, rfl, fun _ k h => absurd h (Nat.not_lt_zero _), (fun h => by cases h), HB⟩
  case round =>
   obtain ⟨i, bb, hi, hg, rfl, rfl, H1, H2, HW⟩ := hrel
   cases bb with
   | false =>
    have HX := Lib.hid (H2.out rfl)
    go_wp2_with fail
    go_ret
    exact ⟨ret_bool HX.out.symm, HW.out⟩
   | true =>
    have HA := Lib.hid (H1.out rfl)
    by_cases hlt : i < L.length
    ·have hz : (i : Int) < (L.length : Int) := by omega
     have KQ := Lib.hid (KD.out i hlt _ HW.out)
     have e2 : IntKind.i64.wrap ((i : Int) + 1) = ((i + 1 : Nat) : Int) := by rw [IntWalk.i64_in _ (by omega)]; rfl
     go_wp2_with fail
     refine KQ.out.mono ?_
     rintro _ V2 ⟨e0, rfl, he, hb⟩
     have HW2 := Lib.hid (HW.out.trans (hb.mono HW.out.size))
     clear hb KQ
     by_cases h0 : e0 = 0
     ·have HO := Lib.hid (he.1 h0)
      clear he
      subst h0
      go_wp2_with fail
      go_roundg (L.length + 1 - (i + 1))
      case measure => omega
      case rel => exact ⟨i + 1, true, by omega, Nat.le_refl _, by simp, rfl, fun _ k hk => by
       by_cases e : k = i
       ·subst e; exact HO.out
       ·exact HA.out k (by omega), (fun h => by cases h), HW2⟩
     ·have HO : Hid (R = false) := by
       show _ = _
       rw [HR2.out]
       cases hem : em with
       | false => rfl
       | true => exact absurd (he.2 (HI.out.1 hem i hlt)) h0
      have hzb : (e0 == 0) = false := by simpa using h0
      clear he h0
      go_wp2_with fail
      go_roundg (L.length + 1 - (i + 1))
      case measure => omega
      case rel => exact ⟨i + 1, false, by omega, Nat.le_refl _, by simp, rfl, (fun h => by cases h), fun _ => HO.out, HW2⟩
    ·have hz : ¬ (i : Int) < (L.length : Int) := by omega
     have hie : i = L.length := by omega
     rw [hie] at HA
     have HX : Hid (R = true) := HR2.out.trans (HI.out.2 HA.out)
     go_wp2_with fail
     go_ret
     exact ⟨ret_bool HX.out.symm, HW.out⟩
end Go.Proofs.Ytoaonficdkgfiaa
