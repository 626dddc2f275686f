/-
  Levels of a tree: contracts of checkCount, isIndex, beside, above, nextWidth, join, firstLevel, nextLevel.
-/
import Derived.Test.YtlbaggljmbkfdaaDoorDMark
import Derived.Deep.DrawnRows
namespace Go.Proofs.YtlbaggljmbkfdaaDoor
open Go.RowKit Dg

/-- The error of a number of leaves. -/
def cE (n : Int) : Int := if n < 1 then 1 else if 1024 < n then 2 else 0
set_option maxRecDepth 100000 in
set_option maxHeartbeats 400000 in
theorem count_any (n : Int) (w : World) : Calls Tryd.prog 27 #[.int .i64 n] w fun e w' => e = .returned (.int .i64 (cE n)) ∧ w' = w := by
  by_cases h : n < 1
  · have E : cE n = 1 := by unfold cE; rw [if_pos h]
    rw [E]; clear E
    go_enter Tryd.func27, Tryd.ntmps27
    go_wp2
    go_ret
    exact ⟨rfl, rfl⟩
  · by_cases h2 : 1024 < n
    · have E : cE n = 2 := by unfold cE; rw [if_neg h, if_pos h2]
      rw [E]; clear E
      go_enter Tryd.func27, Tryd.ntmps27
      go_wp2
      go_ret
      exact ⟨rfl, rfl⟩
    · have E : cE n = 0 := by unfold cE; rw [if_neg h, if_neg h2]
      rw [E]; clear E
      go_enter Tryd.func27, Tryd.ntmps27
      go_wp2
      go_ret
      exact ⟨rfl, rfl⟩
def isI (i n : Int) : Bool := decide (0 ≤ i) && decide (i < n)
set_option maxRecDepth 100000 in
set_option maxHeartbeats 400000 in
theorem index_any (i n : Int) (w : World) : Calls Tryd.prog 33 #[.int .i64 i, .int .i64 n] w fun e w' => e = .returned (.bool (isI i n)) ∧ w' = w := by
  by_cases h : 0 ≤ i
  · by_cases h2 : i < n
    · have E : isI i n = true := by unfold isI; rw [decide_eq_true h, decide_eq_true h2]; rfl
      rw [E]; clear E
      go_enter Tryd.func33, Tryd.ntmps33
      go_wp2
      go_ret
      exact ⟨rfl, rfl⟩
    · have E : isI i n = false := by unfold isI; rw [decide_eq_true h, decide_eq_false h2]; rfl
      rw [E]; clear E
      go_enter Tryd.func33, Tryd.ntmps33
      go_wp2
      go_ret
      exact ⟨rfl, rfl⟩
  · have E : isI i n = false := by unfold isI; rw [decide_eq_false h]; rfl
    rw [E]; clear E
    go_enter Tryd.func33, Tryd.ntmps33
    go_wp2
    go_ret
    exact ⟨rfl, rfl⟩
/-- The index beside. -/
def bsI (i : Nat) : Nat := if i % 2 = 0 then i + 1 else i - 1
set_option maxRecDepth 100000 in
set_option maxHeartbeats 400000 in
theorem beside_any (i : Nat) (w : World) (hi : i ≤ 1000000) : Calls Tryd.prog 34 #[.int .i64 i] w fun e w' => e = .returned (.int .i64 (bsI i : Nat)) ∧ w' = w := by
  have hm : (i : Int).tmod 2 = ((i % 2 : Nat) : Int) := by rw [Int.tmod_eq_emod_of_nonneg (by omega)]; omega
  by_cases h : i % 2 = 0
  · have E : bsI i = i + 1 := by unfold bsI; rw [if_pos h]
    rw [E, Int.natCast_add]; clear E
    rw [h] at hm
    go_enter Tryd.func34, Tryd.ntmps34
    go_wp2
    go_ret
    exact ⟨rfl, rfl⟩
  · have E : ((bsI i : Nat) : Int) = (i : Int) - 1 := by unfold bsI; rw [if_neg h]; omega
    rw [E]; clear E
    rw [show i % 2 = 1 by omega] at hm
    go_enter Tryd.func34, Tryd.ntmps34
    go_wp2
    go_ret
    exact ⟨rfl, rfl⟩
set_option maxRecDepth 100000 in
set_option maxHeartbeats 400000 in
theorem above_any (i : Nat) (w : World) (hi : i ≤ 1000000) : Calls Tryd.prog 35 #[.int .i64 i] w fun e w' => e = .returned (.int .i64 (i / 2 : Nat)) ∧ w' = w := by
  go_enter Tryd.func35, Tryd.ntmps35
  go_wp2
  go_ret
  exact ⟨ret_i64 (by omega), rfl⟩
set_option maxRecDepth 100000 in
set_option maxHeartbeats 400000 in
theorem width_any (n : Nat) (w : World) (hn : n ≤ 1000000) : Calls Tryd.prog 37 #[.int .i64 n] w fun e w' => e = .returned (.int .i64 ((n + 1) / 2 : Nat)) ∧ w' = w := by
  go_enter Tryd.func37, Tryd.ntmps37
  go_wp2
  go_ret
  exact ⟨ret_i64 (by omega), rfl⟩
noncomputable def jnV (i a b : Nat) : Nat := if i % 2 = 0 then prN a b else prN b a
set_option maxRecDepth 100000 in
set_option maxHeartbeats 400000 in
theorem join_any (i a b : Nat) (w : World) (hi : i ≤ 1000000) : Calls Tryd.prog 38 #[.int .i64 i, .int .u64 a, .int .u64 b] w fun e w' => e = .returned (.int .u64 (jnV i a b : Nat)) ∧ RowKit.Below w.heap.size w w' := by
  have hm : (i : Int).tmod 2 = ((i % 2 : Nat) : Int) := by rw [Int.tmod_eq_emod_of_nonneg (by omega)]; omega
  by_cases h : i % 2 = 0
  · have E : jnV i a b = prN a b := by unfold jnV; rw [if_pos h]
    rw [E]; clear E
    rw [h] at hm
    have K := Lib.hid (fun w => pair_any a b w)
    generalize prN a b = c at *
    go_enter Tryd.func38, Tryd.ntmps38
    go_wp2_with fail
    refine (K.out _).mono ?_
    rintro _ w1 ⟨rfl, hb⟩
    go_wp2
    go_ret
    exact ⟨rfl, hb⟩
  · have E : jnV i a b = prN b a := by unfold jnV; rw [if_neg h]
    rw [E]; clear E
    rw [show i % 2 = 1 by omega] at hm
    have K := Lib.hid (fun w => pair_any b a w)
    generalize prN b a = c at *
    go_enter Tryd.func38, Tryd.ntmps38
    go_wp2_with fail
    refine (K.out _).mono ?_
    rintro _ w1 ⟨rfl, hb⟩
    go_wp2
    go_ret
    exact ⟨rfl, hb⟩

/-- The nodes that are written. -/
noncomputable def fF (l : List Nat) (k j : Nat) : Value := if j < k then u64v (l[j]?.getD 0) else u64v 0
theorem fF_zero (l : List Nat) (j : Nat) : fF l 0 j = .int .u64 0 := by unfold fF; rw [if_neg (by omega)]; rfl
theorem fF_set {w : World} {g n : Nat} {t : TypeId} {l : List Nat} {k x : Nat} (h : w.rowIs g t n (fF l k)) (hx : l[k]? = some x) : (w.setCell ⟨g, k, none⟩ (.int .u64 x)).rowIs g t n (fF l (k + 1)) :=
  (h.set k _).congr fun j hj => by
    unfold fF
    by_cases e : j = k
    · rw [if_pos e, if_pos (by omega), e, hx]; rfl
    · rw [if_neg e]
      by_cases e2 : j < k
      · rw [if_pos e2, if_pos (by omega)]
      · rw [if_neg e2, if_neg (by omega)]
theorem fF_sl {w : World} {g n : Nat} {t : TypeId} {l : List Nat} (h : w.rowIs g t n (fF l n)) (hl : l.length = n) (hm : n ≤ 9223372036854775807) : SlF u64v w (some ⟨g, 0, none⟩) g 0 n l :=
  SlF.row h hl hm fun k hk => by unfold fF; rw [if_pos (by omega), List.getElem?_eq_getElem hk]; rfl
theorem below_made (w : World) (z : Value) (n : Nat) (t : TypeId) : RowKit.Below w.heap.size w (w.alloc (.cells (madeCells #[z] n) t)) := (Below.refl _ _).alloc (Nat.le_refl _) _

set_option maxRecDepth 100000 in
set_option maxHeartbeats 1000000 in
theorem first_any (l : List Nat) (p : Option Addr) (b off cap len : Nat) (w : World) (hS : SlF u64v w p b off len l) (hn : len ≤ 1000000) :
    Calls Tryd.prog 28 #[.slice p len cap] w fun e w' => e = .returned (.slice (some ⟨w.heap.size, 0, none⟩) len len) ∧ SlF u64v w' (some ⟨w.heap.size, 0, none⟩) w.heap.size 0 len (lv l) ∧ RowKit.Below w.heap.size w w' := by
  have HS := Lib.hid hS
  have HL := Lib.hid hS.ln
  have HLV : Hid ((lv l).length = len) := by show _ = _; unfold lv; rw [List.length_map, hS.ln]
  have hmk := run_make_row' (P := Tryd.prog) 24 25 (.int .u64 0) 8 Tryd.underlying24 info_u64 rfl .i64 .i64 len (by omega) (by omega)
  have R0 := Lib.hid ((World.rowIs_made w (.int .u64 0) len 25).congr (g := fF (lv l) 0) fun j _ => (fF_zero _ _).symm)
  have B0 := Lib.hid (below_made w (.int .u64 0) len 25)
  clear hS
  go_enter Tryd.func28, Tryd.ntmps28
  go_wp2_with fail
  generalize w.alloc (.cells (madeCells #[.int .u64 0] len) 25) = W2 at *
  obtain ⟨G, hG⟩ : ∃ G, G = w.heap.size := ⟨_, rfl⟩
  have HG := Lib.hid hG
  rw [← hG] at R0 ⊢
  clear hG hmk
  go_loopg [11] len (fun gg s11 wr => ∃ k : Nat, s11 = .int .i64 k ∧ k ≤ len ∧ len - k ≤ gg ∧ Hid (wr.rowIs G 25 len (fF (lv l) k)) ∧ Hid (RowKit.Below w.heap.size w wr))
  case atStart => exact ⟨0, rfl, by omega, by omega, R0.out, B0.out⟩
  case round =>
    obtain ⟨k, rfl, hk, hkg, HR, HB⟩ := hrel
    clear R0 B0 W2
    by_cases hlt : k < len
    · have hltz : (k : Int) < (len : Int) := by omega
      have hp1 := HS.out.ptr (by omega)
      have hkl : k < l.length := by rw [HL.out]; exact hlt
      have c1 := (HS.out.bel HB.out).cells k hkl
      obtain ⟨x, hx⟩ : ∃ x, x = l[k] := ⟨_, rfl⟩
      rw [← hx] at c1
      unfold u64v at c1
      have K := Lib.hid (fun w => leaf_any x w)
      have HX : Hid ((lv l)[k]? = some (lfN x)) := by show _ = _; unfold lv; rw [List.getElem?_map, List.getElem?_eq_getElem hkl, hx]; rfl
      clear hx
      generalize lfN x = y at *
      subst hp1
      go_wp2_with fail
      refine (K.out _).mono ?_
      rintro _ w1 ⟨rfl, hb⟩
      have HB1 := Lib.hid (HB.out.trans (hb.mono HB.out.size))
      have hR1 := HR.out.of_block (hb.block _ HR.out.lt)
      have d1 := hR1.cell hlt
      have f1 := hR1.frozen k
      have HR2 := Lib.hid (fF_set hR1 HX.out)
      have HB2 : Hid (RowKit.Below w.heap.size w (w1.setCell ⟨G, k, none⟩ (.int .u64 y))) := HB1.out.setCell (by have := HG.out; show _ ≤ G; omega) _
      clear hb hR1 K
      go_wp2
      go_roundg (len - (k + 1))
      case measure => omega
      case rel => exact ⟨k + 1, by go_num, by omega, by omega, HR2.out, HB2.out⟩
    · have hltz : ¬ (k : Int) < (len : Int) := by omega
      obtain rfl : k = len := by omega
      have HF := Lib.hid (fF_sl HR.out HLV.out (by omega))
      have e : G = w.heap.size := HG.out
      clear HG
      subst e
      go_wp2
      go_ret
      exact ⟨rfl, HF.out, HB.out⟩
set_option maxRecDepth 100000 in
set_option maxHeartbeats 1000000 in
theorem next_any (l : List Nat) (p : Option Addr) (b off cap len : Nat) (w : World) (hS : SlF u64v w p b off len l) (hn : len ≤ 1000000) :
    Calls Tryd.prog 29 #[.slice p len cap] w fun e w' => e = .returned (.slice (some ⟨w.heap.size, 0, none⟩) ((len + 1) / 2 : Nat) ((len + 1) / 2 : Nat)) ∧ SlF u64v w' (some ⟨w.heap.size, 0, none⟩) w.heap.size 0 ((len + 1) / 2) (upL l) ∧ RowKit.Below w.heap.size w w' := by
  have HS := Lib.hid hS
  have HL := Lib.hid hS.ln
  obtain ⟨N, hN⟩ : ∃ N, N = (len + 1) / 2 := ⟨_, rfl⟩
  rw [← hN]
  have HLV : Hid ((upL l).length = N) := by show _ = _; rw [upL_len, hS.ln, hN]
  have KN := Lib.hid (fun w => width_any len w hn)
  rw [← hN] at KN
  have hq : (len : Int).tdiv 2 = ((len / 2 : Nat) : Int) := by rw [Int.tdiv_eq_ediv_of_nonneg (by omega)]; omega
  obtain ⟨M, hM⟩ : ∃ M, M = len / 2 := ⟨_, rfl⟩
  rw [← hM] at hq
  have hmod : (len : Int).tmod 2 = ((len % 2 : Nat) : Int) := by rw [Int.tmod_eq_emod_of_nonneg (by omega)]; omega
  have hmk := run_make_row' (P := Tryd.prog) 24 25 (.int .u64 0) 8 Tryd.underlying24 info_u64 rfl .i64 .i64 N (by omega) (by omega)
  have R0 := Lib.hid ((World.rowIs_made w (.int .u64 0) N 25).congr (g := fF (upL l) 0) fun j _ => (fF_zero _ _).symm)
  have B0 := Lib.hid (below_made w (.int .u64 0) N 25)
  have HN := Lib.hid hN
  have HM := Lib.hid hM
  have hN1 : 2 * N ≤ len + 1 := by omega
  have hN2 : len ≤ 2 * N := by omega
  have hM1 : 2 * M ≤ len := by omega
  have hM2 : len ≤ 2 * M + 1 := by omega
  have hMq : (len : Int) / 2 = (M : Int) := by omega
  clear hS hN hM hq hmod
  go_enter Tryd.func29, Tryd.ntmps29
  go_wp2_with fail
  refine (KN.out _).mono ?_
  rintro _ w1 ⟨rfl, rfl⟩
  go_wp2_with fail
  generalize w1.alloc (.cells (madeCells #[.int .u64 0] N) 25) = W2 at *
  obtain ⟨G, hG⟩ : ∃ G, G = w1.heap.size := ⟨_, rfl⟩
  have HG := Lib.hid hG
  rw [← hG] at R0 ⊢
  clear hG hmk KN
  go_loopg [12] M (fun gg s12 wr => ∃ k : Nat, s12 = .int .i64 k ∧ k ≤ M ∧ M - k ≤ gg ∧ Hid (wr.rowIs G 25 N (fF (upL l) k)) ∧ Hid (RowKit.Below w1.heap.size w1 wr))
  case atStart => exact ⟨0, rfl, by omega, by omega, R0.out, B0.out⟩
  case round =>
    obtain ⟨k, rfl, hk, hkg, HR, HB⟩ := hrel
    clear R0 B0 W2
    by_cases hlt : k < M
    · have hltz : (k : Int) < (M : Int) := by omega
      have hp1 := HS.out.ptr (by omega)
      have hkl : 2 * k + 1 < l.length := by rw [HL.out]; omega
      have hkl0 : 2 * k < l.length := by omega
      have HBS : Hid (b < w1.heap.size) := HS.out.lt (by omega)
      obtain ⟨x, hx⟩ : ∃ x, x = l[2 * k] := ⟨_, rfl⟩
      obtain ⟨y, hy⟩ : ∃ x, x = l[2 * k + 1] := ⟨_, rfl⟩
      have D1 : Hid (w1.cell? ⟨b, off + 2 * k, none⟩ = some (.int .u64 x)) := by show _ = _; rw [hx]; exact HS.out.cells (2 * k) hkl0
      have D2 : Hid (w1.cell? ⟨b, off + (2 * k + 1), none⟩ = some (.int .u64 y)) := by show _ = _; rw [hy]; exact HS.out.cells (2 * k + 1) hkl
      have d1 := (HB.out.cell (p := ⟨b, off + 2 * k, none⟩) HBS.out).trans D1.out
      have d2 := (HB.out.cell (p := ⟨b, off + (2 * k + 1), none⟩) HBS.out).trans D2.out
      have K := Lib.hid (fun w => pair_any x y w)
      have HX : Hid ((upL l)[k]? = some (prN x y)) := by
        show _ = _
        rw [upL_at l k (by omega)]
        unfold upAt
        rw [if_pos hkl, List.getElem?_eq_getElem hkl0, List.getElem?_eq_getElem hkl, hx, hy]; rfl
      clear hx hy
      generalize prN x y = z at *
      have hkN : k < N := by omega
      have HGB : Hid (w1.heap.size ≤ (⟨G, k, none⟩ : Addr).block) := by show _ ≤ G; have := HG.out; omega
      have hw1 : IntKind.i64.wrap (2 * (k : Int)) = ((2 * k : Nat) : Int) := by rw [IntKind.wrap_i64]; omega
      have hw2 : IntKind.i64.wrap (((2 * k : Nat) : Int) + 1) = ((2 * k + 1 : Nat) : Int) := by rw [IntKind.wrap_i64]; omega
      have hl1 : ((2 * k : Nat) : Int) < (len : Int) := by rw [HL.out] at hkl0; omega
      have hl2 : ((2 * k + 1 : Nat) : Int) < (len : Int) := by rw [HL.out] at hkl; omega
      generalize 2 * k = k2 at *
      generalize k2 + 1 = k3 at *
      subst hp1
      go_wp2_with fail
      go_region_held3 (fun w' => w'.cell? ⟨b, off + k2, none⟩ = some (.int .u64 x) ∧ w'.cell? ⟨b, off + k3, none⟩ = some (.int .u64 y))
        (first | exact ⟨d1, d2⟩ | exact ⟨t1, t2⟩ | exact ⟨u1, u2⟩ | (go_keep; done))
        (first | (go_at_call 42; refine (K.out _).mono ?_; rintro _ v1 ⟨rfl, hb⟩; have hB1 := HB.out.drew.trans (hb.mono HB.out.drew.size); have hR1 := HR.out.of_block (hb.block _ HR.out.lt); have hd := hR1.cell hkN; have hf := hR1.frozen k; have t1 := (hB1.cell (p := ⟨b, off + k2, none⟩) HBS.out).trans D1.out; have t2 := (hB1.cell (p := ⟨b, off + k3, none⟩) HBS.out).trans D2.out; have hB2 := hB1.setCell (p := ⟨G, k, none⟩) HGB.out (.int .u64 z); have u1 := (hB2.cell (p := ⟨b, off + k2, none⟩) HBS.out).trans D1.out; have u2 := (hB2.cell (p := ⟨b, off + k3, none⟩) HBS.out).trans D2.out))
      have HR2 := Lib.hid (fF_set hR1 HX.out)
      have HB2 := Lib.hid hB2
      clear hB1 hR1 hd hf t1 t2 hB2 u1 u2 hb
      go_wp2
      go_roundg (M - (k + 1))
      case measure => omega
      case rel => exact ⟨k + 1, by go_num, by omega, by omega, HR2.out, HB2.out⟩
    · have hltz : ¬ (k : Int) < (M : Int) := by omega
      obtain rfl : k = M := by omega
      by_cases hodd : len % 2 = 1
      · have hmd : (len : Int) % 2 = 1 := by omega
        have hkN : k < N := by omega
        have hNk : N = k + 1 := by omega
        have hp1 := HS.out.ptr (by omega)
        have hkl : len - 1 < l.length := by rw [HL.out]; omega
        have c1 := (HS.out.bel HB.out).cells (len - 1) hkl
        obtain ⟨x, hx⟩ : ∃ x, x = l[len - 1] := ⟨_, rfl⟩
        rw [← hx] at c1
        unfold u64v at c1
        have d1 := HR.out.cell hkN
        have f1 := HR.out.frozen k
        have HX : Hid ((upL l)[k]? = some x) := by
          show _ = _
          rw [upL_at l k (by have := HL.out; omega)]
          unfold upAt
          rw [if_neg (by have := HL.out; omega), List.getElem?_eq_getElem (by have := HL.out; omega), hx]
          simp only [show 2 * k = len - 1 by omega]; rfl
        have HR2 := fF_set HR.out HX.out
        rw [← hNk] at HR2
        have HF := Lib.hid (fF_sl HR2 HLV.out (by omega))
        have HB2 : Hid (RowKit.Below w1.heap.size w1 (wr.setCell ⟨G, k, none⟩ (.int .u64 x))) := HB.out.setCell (by show _ ≤ G; have := HG.out; omega) _
        have hz1 : (N : Int) - 1 = (k : Int) := by omega
        have hz2 : (len : Int) - 1 = ((len - 1 : Nat) : Int) := by omega
        have hz3 : ((len - 1 : Nat) : Int) < (len : Int) := by omega
        clear hx HR2
        generalize len - 1 = m at *
        have e : G = w1.heap.size := HG.out
        clear HG hNk
        subst e
        subst hp1
        go_wp2
        go_ret
        exact ⟨rfl, HF.out, HB2.out⟩
      · have hmd : (len : Int) % 2 = 0 := by omega
        obtain rfl : k = N := by omega
        have HF := Lib.hid (fF_sl HR.out HLV.out (by omega))
        have e : G = w1.heap.size := HG.out
        clear HG
        subst e
        go_wp2
        go_ret
        exact ⟨rfl, HF.out, HB.out⟩
end Go.Proofs.YtlbaggljmbkfdaaDoor
