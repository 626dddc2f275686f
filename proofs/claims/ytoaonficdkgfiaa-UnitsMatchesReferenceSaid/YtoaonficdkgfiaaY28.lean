/- Texts on units: RDe1 -/
import Derived.Test.YtoaonficdkgfiaaY21
import Derived.Test.YtoaonficdkgfiaaY27
namespace Go.Proofs.Ytoaonficdkgfiaa
open Go.RowKit Un

theorem cases1_mono (c : Int) (d : Dc) (h : 1 ≤ c ∧ c ≤ 4097) : c ≤ cases1 c d := by
 unfold cases1
 split
 ·rename_i hb
  simp only [bounded, Bool.and_eq_true, decide_eq_true_eq] at hb
  have : c * 1 ≤ c * (d.hi - d.lo + 1) := Int.mul_le_mul_of_nonneg_left (by omega) (by omega)
  omega
 ·omega
theorem prodC_app (l : List Dc) : ∀ (m : List Dc), prodC l ≤ prodC (l ++ m)
 | [] => by rw [List.append_nil]; omega
 | d :: m => by
  have h1 := prodC_app (l ++ [d]) m
  rw [prodC_snoc] at h1
  have h2 := prodC_rng l
  have h3 := cases1_mono (prodC l) d (by omega)
  rw [List.append_assoc, List.singleton_append] at h1
  omega
theorem prodC_take (L : List Dc) {q i : Nat} (h : q ≤ i) : prodC (L.take q) ≤ prodC (L.take i) := by
 have : L.take i = L.take q ++ (L.drop q).take (i - q) := by
  rw [← List.take_append_drop q (L.take i), List.take_take, Nat.min_eq_left h, List.drop_take]
 rw [this]
 exact prodC_app _ _
def errI (L : List Dc) (i : Nat) (d : Dc) : Int := if (L.take i).any (fun e => e.nm == d.nm) then 5 else if !bounded d then 3 else if 4096 < prodC (L.take (i + 1)) then 2 else 0
theorem errI_eq (L : List Dc) (i : Nat) (hi : i < L.length) : errI L i L[i] = errD (L.take i) (prodC (L.take i)) L[i] := by
 unfold errI errD
 rw [List.take_succ_eq_append_getElem hi, prodC_snoc]
set_option maxRecDepth 100000 in
set_option maxHeartbeats 12000000 in
theorem rdecl1_any (L : List Dc) (p : Option Addr) (b off c : Nat) (i : Nat) (hi : i < L.length) (w : World) (hS : SlR w p b off L.length 8 (L.map dC)) :
  Calls Try.prog 45 #[.slice p L.length c, .int .i64 (i : Nat)] w fun e w' => e = .returned (.int .i64 (errI L i L[i])) ∧ RowKit.Below w.heap.size w w' := by
 have HB := Lib.hid (Below.refl w.heap.size w)
 have KB := Lib.hid (fun (d : Dc) w => rbounds_any (bs d.nm) d.u d.lo d.hi d.pl w)
 have HS := Lib.hid hS
 have hmax := hS.max
 have hq := hS.ptr (by omega)
 subst hq
 have hrc : ∀ (V : World), RowKit.Below w.heap.size w V → ∀ k (hk : k < L.length) (j : Nat) (v : Value), (dC L[k])[j]? = some v → V.cell? ⟨b, off + k * 8 + j, none⟩ = some v := fun V hV k hk => ((HS.out.bel hV).at_ k (dC L[k]) (by rw [List.getElem?_map, List.getElem?_eq_getElem hk]; rfl)).2
 have HRC := Lib.hid hrc
 clear hrc hS
 obtain ⟨di, hdi⟩ : ∃ di, di = L[i] := ⟨_, rfl⟩
 rw [← hdi]
 have HDI := Lib.hid hdi
 clear hdi
 obtain ⟨R, hR⟩ : ∃ R, R = errI L i di := ⟨_, rfl⟩
 rw [← hR]
 have HR : Hid (R = if (L.take i).any (fun e => e.nm == di.nm) then 5 else if !bounded di then 3 else if 4096 < prodC (L.take (i + 1)) then 2 else 0) := hR
 clear hR
 go_enter Try.func45, Try.ntmps45
 go_wp2_with fail
 go_loopg [5] i (fun g v5 wr => ∃ k : Nat, k ≤ i ∧ i - k ≤ g ∧ v5 = .int .i64 (k : Nat) ∧ Hid ((L.take k).any (fun e => e.nm == di.nm) = false) ∧ Hid (RowKit.Below w.heap.size w wr))
 case atStart => exact ⟨0, Nat.zero_le _, by omega, by simp, by show _ = _; simp, HB⟩
 case round =>
  obtain ⟨k, hk, hg, rfl, HM, HW⟩ := hrel
  by_cases hlt : k < i
  ·have hz : (k : Int) < (i : Int) := by omega
   have hkL : k < L.length := by omega
   have zk := HRC.out wr HW.out k hkL 0 _ rfl
   have zi := HRC.out wr HW.out i hi 0 _ rfl
   simp only [Nat.add_zero] at zk zi
   have hz1 : (k : Int) < (L.length : Int) := by omega
   have hz2 : (i : Int) < (L.length : Int) := by omega
   have E1 : Hid ((L.take (k + 1)).any (fun e => e.nm == di.nm) = (L[k].nm == di.nm)) := by
    show _ = _
    rw [List.take_succ_eq_append_getElem hkL, List.any_append, HM.out]
    simp
   have E2 : Hid ((L[k].nm == di.nm) = true → (L.take i).any (fun e => e.nm == di.nm) = true) := fun h =>
    List.any_eq_true.2 ⟨L[k], by rw [List.mem_take_iff_getElem]; exact ⟨k, by omega, rfl⟩, h⟩
   rw [← HDI.out] at zi
   have e1 : ((bs L[k].nm).toList == (bs di.nm).toList) = (L[k].nm == di.nm) := by rw [bs_list, bs_list]
   have e2 : IntKind.i64.wrap ((k : Int) + 1) = ((k + 1 : Nat) : Int) := by rw [IntWalk.i64_in _ (by omega)]; rfl
   generalize (L[k].nm == di.nm) = q at *
   generalize bs L[k].nm = s1 at *
   generalize bs di.nm = s2 at *
   cases q with
   | true =>
    have HR2 : Hid (R = 5) := by show _ = _; rw [HR.out, if_pos (E2.out rfl)]
    clear E1 E2
    go_wp2_with fail
    go_quiet (fail)
    go_wp2_with fail
    go_ret
    exact ⟨ret_int HR2.out.symm, below_drewN HW.out _⟩
   | false =>
    clear E2
    go_wp2_with fail
    go_quiet (fail)
    go_wp2_with fail
    go_roundg (i - (k + 1))
    case measure => omega
    case rel => exact ⟨k + 1, by omega, Nat.le_refl _, by simp, E1, by show RowKit.Below _ _ _; exact below_drewN HW.out _⟩
  ·have hz : ¬ (k : Int) < (i : Int) := by omega
   have hki : k = i := by omega
   rw [hki] at HM
   clear hlt hg
   have HR2 : Hid (R = if !bounded di then 3 else if 4096 < prodC (L.take (i + 1)) then 2 else 0) := by show _ = _; rw [HR.out, if_neg (by rw [HM.out]; simp)]
   clear HR HM
   have hz2 : (i : Int) < (L.length : Int) := by omega
   have KQ3 : Hid (∀ w, Calls Try.prog 65 #[.agg (dC di).toArray] w fun e w' => e = .returned (.bool (bounded di)) ∧ RowKit.Below w.heap.size w w') := fun w => KB.out di w
   have hci : Hid (∀ j v, (dC di)[j]? = some v → wr.cell? ⟨b, off + i * 8 + j, none⟩ = some v) := by rw [HDI.out]; exact HRC.out _ HW.out i hi
   go_wp2_with ((with_reducible show wpList _ _ _ ({ dst := some 29, op := _, type := _, pos := _, after := _, guard := _ } :: _) _ _); refine wl_loadP rfl rfl rfl (load_rowAt 47 8 (by kernel_rfl) (by kernel_rfl) _ _ _ (dC di) rfl hci.out) ?_; simp only [Act.put, zA, zB, zC])
   refine (KQ3.out _).mono ?_
   rintro _ V ⟨rfl, hb⟩
   clear hz hki hk hci KQ3
   replace HW := Lib.hid (HW.out.trans (hb.mono HW.out.size))
   clear hb
   generalize bounded di = bd at *
   cases bd with
   | false =>
    have HR3 : Hid (R = 3) := HR2.out
    go_wp2_with fail
    go_ret
    exact ⟨ret_int HR3.out.symm, HW.out⟩
   | true =>
    have HR3 : Hid (R = if 4096 < prodC (L.take (i + 1)) then 2 else 0) := HR2.out
    clear HR2
    go_wp2_with fail
    go_loopg [7, 8] (i + 1) (fun g v7 v8 wq => ∃ k : Nat, k ≤ i + 1 ∧ i + 1 - k ≤ g ∧ v8 = .int .i64 (k : Nat) ∧ v7 = .int .i64 (prodC (L.take k)) ∧ Hid (prodC (L.take k) ≤ 4096) ∧ Hid (RowKit.Below w.heap.size w wq))
    case atStart => exact ⟨0, Nat.zero_le _, by omega, by simp, rfl, by show _ ≤ _; simp [prodC], HW⟩
    case round =>
     obtain ⟨q, hq, hg2, rfl, rfl, HC, HV⟩ := hrel
     have hrg := prodC_rng (L.take q)
     by_cases hle : q ≤ i
     ·have hz : (q : Int) ≤ (i : Int) := by omega
      have hqL : q < L.length := by omega
      have hz1 : (q : Int) < (L.length : Int) := by omega
      have HCL := Lib.hid (HRC.out _ HV.out q hqL)
      have E3 : Hid (prodC (L.take (q + 1)) = cases1 (prodC (L.take q)) L[q]) := by show _ = _; rw [List.take_succ_eq_append_getElem hqL, prodC_snoc]
      have E5 : Hid (prodC (L.take (q + 1)) ≤ prodC (L.take (i + 1))) := prodC_take L (by omega)
      have E4 : Hid (cases1 (prodC (L.take q)) L[q] = if bounded L[q] then min (prodC (L.take q) * (L[q].hi - L[q].lo + 1)) 4097 else prodC (L.take q)) := rfl
      have KQ2 : Hid (bounded L[q] = true → 1 ≤ L[q].hi - L[q].lo + 1 ∧ L[q].hi - L[q].lo + 1 ≤ 1000001 ∧ 0 ≤ L[q].lo ∧ L[q].hi ≤ 1000000) := fun h => by
       simp only [bounded, Bool.and_eq_true, decide_eq_true_eq] at h
       omega
      have KQ3 : Hid (∀ w, Calls Try.prog 65 #[.agg (dC L[q]).toArray] w fun e w' => e = .returned (.bool (bounded L[q])) ∧ RowKit.Below w.heap.size w w') := fun w => KB.out L[q] w
      have HCV : Hid (∀ V, RowKit.Below w.heap.size w V → V.cell? ⟨b, off + q * 8 + 5, none⟩ = some (.int .i64 L[q].lo) ∧ V.cell? ⟨b, off + q * 8 + 6, none⟩ = some (.int .i64 L[q].hi)) := fun V hV => ⟨HRC.out _ hV q hqL 5 _ rfl, HRC.out _ hV q hqL 6 _ rfl⟩
      generalize L[q] = d at *
      generalize hcq : prodC (L.take q) = cq at *
      generalize hbd : bounded d = bd at *
      generalize hc1 : cases1 cq d = c1 at *
      have e2 : IntKind.i64.wrap ((q : Int) + 1) = ((q + 1 : Nat) : Int) := by rw [IntWalk.i64_in _ (by omega)]; rfl
      clear hc1 hbd
      go_wp2_with ((with_reducible show wpList _ _ _ ({ dst := some 41, op := _, type := _, pos := _, after := _, guard := _ } :: _) _ _); refine wl_loadP rfl rfl rfl (load_rowAt 47 8 (by kernel_rfl) (by kernel_rfl) _ _ _ (dC d) rfl HCL.out) ?_; simp only [Act.put, zA, zB, zC])
      refine (KQ3.out _).mono ?_
      rintro _ V ⟨rfl, hb⟩
      have HV2 := Lib.hid (HV.out.trans (hb.mono HV.out.size))
      obtain ⟨z5, z6⟩ := HCV.out _ HV2.out
      clear hb KQ3 HCL HCV
      generalize d.lo = lo at *
      generalize d.hi = hi' at *
      cases bd with
      | false =>
       have hcx : c1 = cq := E4.out
       have hm : ¬ (4096 : Int) < cq := by have := HC.out; omega
       have hc4 : Hid (prodC (L.take (q + 1)) ≤ 4096) := by show _ ≤ _; rw [E3.out, hcx]; exact HC.out
       have hpe : prodC (L.take (q + 1)) = cq := by rw [E3.out, hcx]
       clear E4 E5 KQ2 z5 z6
       have HPE := Lib.hid hpe
       clear hpe hcx
       go_wp2_with fail
       go_roundg (i + 1 - (q + 1))
       case measure => omega
       case rel => exact ⟨q + 1, by omega, Nat.le_refl _, by simp, by rw [HPE.out], hc4, HV2⟩
      | true =>
       obtain ⟨k1, k2, k3, k4⟩ := KQ2.out rfl
       have ew1 : IntKind.i64.wrap (hi' - lo) = hi' - lo := IntWalk.i64_in _ (by omega)
       have ew2 : IntKind.i64.wrap (hi' - lo + 1) = hi' - lo + 1 := IntWalk.i64_in _ (by omega)
       have hpr : 0 ≤ cq * (hi' - lo + 1) ∧ cq * (hi' - lo + 1) ≤ 4097 * 1000001 := ⟨Int.mul_nonneg (by omega) (by omega), Int.mul_le_mul hrg.2 k2 (by omega) (by omega)⟩
       obtain ⟨x, hx⟩ : ∃ x, x = cq * (hi' - lo + 1) := ⟨_, rfl⟩
       have ew3 : IntKind.i64.wrap (cq * (hi' - lo + 1)) = x := by rw [← hx] at hpr ⊢; exact IntWalk.i64_in _ (by omega)
       have E8 : c1 = min x 4097 := by rw [E4.out, hx]; rfl
       clear k1 k2 k3 k4 hpr hx
       by_cases hm : 4096 < x
       ·have HR4 : Hid (R = 2) := by show _ = _; rw [HR3.out, if_pos (by have h5 := E5.out; rw [E3.out] at h5; omega)]
        go_wp2_with fail
        go_quiet (fail)
        go_wp2_with fail
        go_ret
        exact ⟨ret_int HR4.out.symm, below_drewN HV2.out _⟩
       ·have hcx : c1 = x := by omega
        have hc4 : Hid (prodC (L.take (q + 1)) ≤ 4096) := by show _ ≤ _; rw [E3.out]; omega
        have HPE : Hid (prodC (L.take (q + 1)) = x) := by show _ = _; rw [E3.out, hcx]
        clear hcx E8
        go_wp2_with fail
        go_quiet (fail)
        go_wp2_with fail
        go_roundg (i + 1 - (q + 1))
        case measure => omega
        case rel => exact ⟨q + 1, by omega, Nat.le_refl _, by simp, by rw [HPE.out], hc4, by show RowKit.Below _ _ _; exact below_drewN HV2.out _⟩
     ·have hz : ¬ (q : Int) ≤ (i : Int) := by omega
      have hqi : q = i + 1 := by omega
      rw [hqi] at HC
      have HR4 : Hid (R = 0) := by show _ = _; rw [HR3.out, if_neg (by have := HC.out; omega)]
      go_wp2_with fail
      go_ret
      exact ⟨ret_int HR4.out.symm, HV.out⟩
end Go.Proofs.Ytoaonficdkgfiaa
