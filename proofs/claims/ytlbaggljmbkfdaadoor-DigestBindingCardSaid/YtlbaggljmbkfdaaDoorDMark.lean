/-
  The digest of a byte and numbers: contracts of mark, leafNode, pairNode.
-/
import Derived.Test.YtlbaggljmbkfdaaDoorDWord
import Derived.Laws.CopyOwn
import Derived.Deep.RegionHeld3
namespace Go.Proofs.YtlbaggljmbkfdaaDoor
open Go.RowKit Dg

theorem info_u8 : (Tryd.prog.info? 5).map (fun i => (i.zero, i.size, i.bytes)) = some (some (.int .u8 0), 1, 1) := by kernel_rfl
theorem info_u64 : (Tryd.prog.info? 25).map (fun i => (i.zero, i.size, i.bytes)) = some (some (.int .u64 0), 1, 8) := by kernel_rfl
theorem size_u8 : (Tryd.prog.info? 5).map (·.size) = some 1 := by kernel_rfl
/-- The bytes of numbers. -/
def blk : List Nat → List Nat
  | [] => []
  | n :: l => by8 n ++ blk l
theorem blk_len : ∀ l, (blk l).length = 8 * l.length
  | [] => rfl
  | n :: l => by rw [blk, List.length_append, by8_len, blk_len, List.length_cons]; omega
theorem blk_bytes : ∀ l, Bytes (blk l)
  | [] => fun c h => by cases h
  | n :: l => fun c h => by
    rw [blk] at h
    rcases List.mem_append.1 h with h | h
    · exact by8_bytes n c h
    · exact blk_bytes l c h
theorem blk_at : ∀ (l : List Nat) (k r : Nat) (h : k < l.length), r < 8 → (blk l)[8 * k + r]? = (by8 l[k])[r]?
  | n :: l, 0, r, _, hr => by rw [blk, Nat.mul_zero, Nat.zero_add, List.getElem?_append_left (by rw [by8_len]; exact hr)]; rfl
  | n :: l, k + 1, r, h, hr => by
    rw [blk, List.getElem?_append_right (by rw [by8_len]; omega), by8_len, show 8 * (k + 1) + r - 8 = 8 * k + r by omega, blk_at l k r (by simpa using h) hr]; rfl
/-- The bytes that are written. -/
def mF (c : Nat) (l : List Nat) (k j : Nat) : Value := if j = 0 then u8v c else if j - 1 < 8 * k then u8v ((blk l)[j - 1]?.getD 0) else u8v 0

theorem row8 (x : Nat) : ∀ i, i < (#[Value.int .u8 (byA x 0 : Nat), .int .u8 (byA x 1 : Nat), .int .u8 (byA x 2 : Nat), .int .u8 (byA x 3 : Nat), .int .u8 (byA x 4 : Nat), .int .u8 (byA x 5 : Nat), .int .u8 (byA x 6 : Nat), .int .u8 (byA x 7 : Nat)] : Array Value).size → (#[Value.int .u8 (byA x 0 : Nat), .int .u8 (byA x 1 : Nat), .int .u8 (byA x 2 : Nat), .int .u8 (byA x 3 : Nat), .int .u8 (byA x 4 : Nat), .int .u8 (byA x 5 : Nat), .int .u8 (byA x 6 : Nat), .int .u8 (byA x 7 : Nat)] : Array Value)[i]? = some (u8v (byA x i))
  | 0, _ => rfl
  | 1, _ => rfl
  | 2, _ => rfl
  | 3, _ => rfl
  | 4, _ => rfl
  | 5, _ => rfl
  | 6, _ => rfl
  | 7, _ => rfl
  | k + 8, h => by simp at h; omega
/-- A row into which cells were copied. -/
theorem rowIs_splice {w' : World} {g n off : Nat} {t : TypeId} {F G : Nat → Value} {c : Array Value} {cs : List Value} (hn : c.size = n) (hc : ∀ i, i < n → c[i]? = some (F i)) (hs : ∀ i, i < cs.length → cs[i]? = some (G i)) (hf : off + cs.length ≤ n)
    (h : w'.heap[g]? = some (.cells (splice c.toList off cs).toArray t (0, 0))) : w'.rowIs g t n fun j => if off ≤ j ∧ j < off + cs.length then G (j - off) else F j := by
  have hl : c.toList.length = n := by simpa using hn
  refine ⟨_, h, by simp [length_splice c.toList off cs (by omega), hn], fun j hj => ?_⟩
  have e : (splice c.toList off cs).toArray[j]? = (splice c.toList off cs)[j]? := by simp
  rw [e]
  show _ = some (if off ≤ j ∧ j < off + cs.length then G (j - off) else F j)
  have hj2 := hc j hj
  unfold splice
  by_cases h1 : j < off
  · rw [List.getElem?_append_left (by simp; omega), if_neg (by omega), List.getElem?_take, if_pos h1]
    simpa using hj2
  · rw [List.getElem?_append_right (by simp; omega), List.length_take, Nat.min_eq_left (by omega)]
    by_cases h2 : j < off + cs.length
    · rw [List.getElem?_append_left (by omega), if_pos ⟨by omega, h2⟩, hs _ (by omega)]
    · rw [List.getElem?_append_right (by omega), if_neg (by omega), List.getElem?_drop, show off + cs.length + (j - off - cs.length) = j by omega]
      simpa using hj2

set_option maxRecDepth 100000 in
set_option maxHeartbeats 1000000 in
theorem mark_any (c : Nat) (l : List Nat) (p : Option Addr) (b off cap len : Nat) (w : World) (hc : c < 256) (hS : SlF u64v w p b off len l) (hn : len ≤ 1000) :
    Calls Tryd.prog 43 #[.int .u8 c, .slice p len cap] w fun e w' => e = .returned (.int .u64 (dig (c :: blk l) : Nat)) ∧ RowKit.Below w.heap.size w w' := by
  have HS := Lib.hid hS
  have hm := hS.max
  have HL := Lib.hid hS.ln
  obtain ⟨N, hN⟩ : ∃ N, N = 1 + 8 * len := ⟨_, rfl⟩
  have HN := Lib.hid hN
  have hmk := run_make_row' (P := Tryd.prog) 22 5 (.int .u8 0) 1 Tryd.underlying22 info_u8 rfl .i64 .i64 N (by omega) (by omega)
  have hz : (1 : Int) + 8 * (len : Int) = (N : Int) := by omega
  have hN0 : 0 < N := by omega
  obtain ⟨i0, hi, hzz⟩ := Option.map_eq_some_iff.1 size_u8
  have R0 := World.rowIs_made w (.int .u8 0) N 5
  have c0 := R0.cell hN0
  have f0 := R0.frozen 0
  have R2 : Hid ((w.alloc (.cells ((madeCells #[.int .u8 0] N).setIfInBounds 0 (.int .u8 c)) 5)).rowIs w.heap.size 5 N (mF c l 0)) := by
    refine ⟨_, Go.Deep.blk_alloc_new _ _, by simp [size_madeCells], fun j hj => ?_⟩
    unfold mF
    rw [Array.getElem?_setIfInBounds]
    by_cases h : j = 0
    · rw [if_pos h.symm, if_pos h, if_pos (by rw [size_madeCells]; exact hN0)]; rfl
    · rw [if_neg (fun x => h x.symm), if_neg h, if_neg (by omega)]
      simp [madeCells, hj, Nat.mod_one]; rfl
  have B2 : Hid (RowKit.Below w.heap.size w (w.alloc (.cells ((madeCells #[.int .u8 0] N).setIfInBounds 0 (.int .u8 c)) 5))) := (Below.refl _ _).alloc (Nat.le_refl _) _
  clear hS hN R0
  go_enter Tryd.func43, Tryd.ntmps43
  go_wp2_with fail
  generalize w.alloc (.cells ((madeCells #[.int .u8 0] N).setIfInBounds 0 (.int .u8 c)) 5) = W2 at *
  obtain ⟨G, hG⟩ : ∃ G, G = w.heap.size := ⟨_, rfl⟩
  rw [← hG] at R2 ⊢
  have HG := Lib.hid hG
  clear hG c0 f0 hmk
  go_loopg [19] len (fun gg s19 wr => ∃ k : Nat, s19 = .int .i64 k ∧ k ≤ len ∧ len - k ≤ gg ∧ Hid (wr.rowIs G 5 N (mF c l k)) ∧ Hid (RowKit.Below w.heap.size w wr))
  case atStart => exact ⟨0, rfl, by omega, by omega, R2.out, B2.out⟩
  case round =>
    obtain ⟨k, rfl, hk, hkg, HR, HB⟩ := hrel
    clear R2 B2 W2
    by_cases hlt : k < len
    · have hltz : (k : Int) < (len : Int) := by omega
      have hp1 := HS.out.ptr (by omega)
      have hkl : k < l.length := by rw [HL.out]; exact hlt
      have c1 := (HS.out.bel HB.out).cells k hkl
      have hbs := (HS.out.bel HB.out).lt (by omega)
      obtain ⟨x, hx⟩ : ∃ x, x = l[k] := ⟨_, rfl⟩
      rw [← hx] at c1
      unfold u64v at c1
      have HX := Lib.hid hx
      have KW := Lib.hid (fun w : World => word_any x w)
      rw [agg8] at KW
      clear hx
      subst hp1
      go_wp2_with fail
      refine (KW.out _).mono ?_
      rintro _ w1 ⟨rfl, hb⟩
      have HB1 := Lib.hid hb
      clear hb
      go_wp2_with fail
      have hW3 : RowKit.Below w.heap.size w (w1.alloc (.cells #[.int .u8 (byA x 0 : Nat), .int .u8 (byA x 1 : Nat), .int .u8 (byA x 2 : Nat), .int .u8 (byA x 3 : Nat), .int .u8 (byA x 4 : Nat), .int .u8 (byA x 5 : Nat), .int .u8 (byA x 6 : Nat), .int .u8 (byA x 7 : Nat)] 58)) :=
        (HB.out.trans (HB1.out.mono HB.out.size)).alloc (HB.out.trans (HB1.out.mono HB.out.size)).size _
      have hR3 : (w1.alloc (.cells #[.int .u8 (byA x 0 : Nat), .int .u8 (byA x 1 : Nat), .int .u8 (byA x 2 : Nat), .int .u8 (byA x 3 : Nat), .int .u8 (byA x 4 : Nat), .int .u8 (byA x 5 : Nat), .int .u8 (byA x 6 : Nat), .int .u8 (byA x 7 : Nat)] 58)).rowIs G 5 N (mF c l k) :=
        (HR.out.of_block (HB1.out.block _ HR.out.lt)).alloc _
      have hS3 : (w1.alloc (.cells #[.int .u8 (byA x 0 : Nat), .int .u8 (byA x 1 : Nat), .int .u8 (byA x 2 : Nat), .int .u8 (byA x 3 : Nat), .int .u8 (byA x 4 : Nat), .int .u8 (byA x 5 : Nat), .int .u8 (byA x 6 : Nat), .int .u8 (byA x 7 : Nat)] 58)).rowIs w1.heap.size 58 8 (fun j => u8v (byA x j)) :=
        World.rowIs_alloc w1 #[.int .u8 (byA x 0 : Nat), .int .u8 (byA x 1 : Nat), .int .u8 (byA x 2 : Nat), .int .u8 (byA x 3 : Nat), .int .u8 (byA x 4 : Nat), .int .u8 (byA x 5 : Nat), .int .u8 (byA x 6 : Nat), .int .u8 (byA x 7 : Nat)] 58 _ (row8 x)
      generalize w1.alloc (.cells #[.int .u8 (byA x 0 : Nat), .int .u8 (byA x 1 : Nat), .int .u8 (byA x 2 : Nat), .int .u8 (byA x 3 : Nat), .int .u8 (byA x 4 : Nat), .int .u8 (byA x 5 : Nat), .int .u8 (byA x 6 : Nat), .int .u8 (byA x 7 : Nat)] 58) = W3 at *
      generalize w1.heap.size = G3 at *
      obtain ⟨cs, hcs⟩ : ∃ cs, cs = (by8 x).map u8v := ⟨_, rfl⟩
      have hcl : cs.length = 8 := by rw [hcs]; rfl
      have hcv : ∀ v ∈ cs, v.oneCell' = true := fun v hv => by
        rw [hcs] at hv
        obtain ⟨y, _, rfl⟩ := List.mem_map.1 hv
        rfl
      have hsrc : ∀ j v, cs[j]? = some v → W3.cell? ((⟨G3, 0, none⟩ : Addr).add j) = some v := fun j v hv => by
        have hj : j < 8 := by have := (List.getElem?_eq_some_iff.1 hv).1; omega
        rw [addr_add, Nat.zero_add, hS3.cell hj]
        rw [hcs, List.getElem?_map, List.getElem?_eq_getElem (by rw [by8_len]; exact hj)] at hv
        rw [← hv, byA_at x j (by rw [by8_len]; exact hj)]
        rfl
      obtain ⟨cr, hcr, hcn, hcc⟩ := hR3
      have hcr' : W3.heap[G]? = some (.cells cr.toList.toArray 5 (0, 0)) := by simpa using hcr
      have HCL := Lib.hid hcl
      have HCV := Lib.hid hcv
      have HSRC := Lib.hid hsrc
      have HCR := Lib.hid hcr'
      have HCC := Lib.hid hcc
      have HCN := Lib.hid hcn
      have HW3 := Lib.hid hW3
      have HCS := Lib.hid hcs
      obtain ⟨o, ho⟩ : ∃ o, o = 1 + 8 * k := ⟨_, rfl⟩
      have hw1 : IntKind.i64.wrap (8 * (k : Int)) = 8 * (k : Int) := by rw [IntKind.wrap_i64]; omega
      have hw2 : IntKind.i64.wrap (1 + 8 * (k : Int)) = (o : Int) := by rw [IntKind.wrap_i64]; omega
      have hne : ¬ N = o := by omega
      have hle : (o : Int) ≤ (N : Int) := by omega
      have HO := Lib.hid ho
      have HMIN : Hid (cs.length = Nat.min 8 (N - o)) := by show _ = _; rw [hcl]; exact (Nat.min_eq_left (by omega)).symm
      have HFIT : Hid (o + cs.length ≤ cr.toList.length) := by show _ ≤ _; rw [hcl, Array.length_toList]; omega
      have HGB : Hid (w.heap.size ≤ G) := by have := HG.out; show _ ≤ _; omega
      clear hcl hcv hsrc hcr hcr' hcc hcn hS3 hW3 hcs HB1 KW ho
      go_region_held3 (fun w' => True) (trivial) (first | (refine step_copy_splice (by rfl) (.tmp 30) (.tmp 31) 22 22 (by rfl) 5 Tryd.underlying22 size_u8 (some ⟨G, o, none⟩) (some ⟨G3, 0, none⟩) (N - o) (N - o) 8 8 (by rfl) (by rfl) G o cr.toList 5 HCR.out cs HMIN.out (fun _ => ⟨rfl, _, rfl, HSRC.out⟩) HFIT.out HCV.out w.heap.size w HW3.out.drew HGB.out ?_; intro w4 hg4 hb4) | fail)
      have HR4 : Hid (w4.rowIs G 5 N (mF c l (k + 1))) := by
        refine World.rowIs.congr (rowIs_splice HCN.out HCC.out (G := fun j => u8v (byA x j)) (fun i hi => ?_) (by have h1 : o + cs.length ≤ cr.toList.length := HFIT.out; have h2 : cr.size = N := HCN.out; have h3 : cr.toList.length = cr.size := Array.length_toList; omega) hg4.out) fun j hj => ?_
        · rw [HCS.out, List.getElem?_map, List.getElem?_eq_getElem (by rw [by8_len]; rw [HCL.out] at hi; exact hi), byA_at x i (by rw [by8_len]; rw [HCL.out] at hi; exact hi)]; rfl
        · have h8 := HCL.out
          have ho := HO.out
          show (if o ≤ j ∧ j < o + cs.length then u8v (byA x (j - o)) else mF c l k j) = mF c l (k + 1) j
          unfold mF
          by_cases h : o ≤ j ∧ j < o + cs.length
          · rw [if_pos h, if_neg (by omega), if_pos (by omega)]
            have e := blk_at l k (j - o) hkl (by omega)
            rw [show 8 * k + (j - o) = j - 1 by omega] at e
            rw [e, ← HX.out, List.getElem?_eq_getElem (by rw [by8_len]; omega), byA_at x (j - o) (by rw [by8_len]; omega)]; rfl
          · rw [if_neg h]
            by_cases h0 : j = 0
            · rw [if_pos h0, if_pos h0]
            · rw [if_neg h0, if_neg h0]
              by_cases h1 : j - 1 < 8 * k
              · rw [if_pos h1, if_pos (by omega)]
              · rw [if_neg h1, if_neg (by omega)]
      clear hg4 HCL HCV HSRC HCR HCC HCN HW3 HCS HMIN HFIT HGB hw1 hw2 hne hle HO
      go_wp2
      go_roundg (len - (k + 1))
      case measure => omega
      case rel => exact ⟨k + 1, by go_num, by omega, by omega, HR4.out, hb4⟩
    · have hltz : ¬ (k : Int) < (len : Int) := by omega
      have HF : Hid (SlF u8v wr (some ⟨G, 0, none⟩) G 0 N (c :: blk l)) := SlF.row HR.out (by rw [List.length_cons, blk_len, HL.out]; omega) (by omega) (fun j hj => by
        unfold mF
        rcases j with _ | j
        · rfl
        · have hj2 : j < (blk l).length := by simpa using hj
          rw [if_neg (by omega), if_pos (by have := blk_len l; have := HL.out; omega)]
          simp [List.getElem?_eq_getElem hj2])
      have KS := Lib.hid (fun w (hS : SlF u8v w (some ⟨G, 0, none⟩) G 0 N (c :: blk l)) => sum_any (c :: blk l) (some ⟨G, 0, none⟩) G 0 N N w hS (fun y hy => by
        rcases List.mem_cons.1 hy with rfl | hy
        · exact hc
        · exact blk_bytes l y hy))
      go_wp2_with fail
      refine (KS.out _ HF.out).mono ?_
      rintro _ w1 ⟨rfl, rfl⟩
      go_wp2
      go_ret
      exact ⟨rfl, HB.out⟩
theorem one_at {x : Nat} : ∀ i, i < (#[Value.int .u64 x] : Array Value).size → (#[Value.int .u64 x] : Array Value)[i]? = some (u64v x)
  | 0, _ => rfl
  | k + 1, h => by simp at h
theorem one_of {x : Nat} : ∀ (k : Nat) (h : k < [x].length), u64v x = u64v [x][k]
  | 0, _ => rfl
  | k + 1, h => by simp at h
theorem two_at {x y : Nat} : ∀ i, i < (#[Value.int .u64 x, .int .u64 y] : Array Value).size → (#[Value.int .u64 x, .int .u64 y] : Array Value)[i]? = some (if i = 0 then u64v x else u64v y)
  | 0, _ => rfl
  | 1, _ => rfl
  | k + 2, h => by simp at h; omega
theorem two_of {x y : Nat} : ∀ (k : Nat) (h : k < [x, y].length), (if k = 0 then u64v x else u64v y) = u64v [x, y][k]
  | 0, _ => rfl
  | 1, _ => rfl
  | k + 2, h => by simp at h; omega
theorem blk1 (x : Nat) : dig (0 :: blk [x]) = lfN x := by unfold lfN lfB; simp [blk]
theorem blk2 (x y : Nat) : dig (1 :: blk [x, y]) = prN x y := by unfold prN prB; simp [blk]
set_option maxRecDepth 100000 in
set_option maxHeartbeats 400000 in
theorem leaf_any (x : Nat) (w : World) : Calls Tryd.prog 36 #[.int .u64 x] w fun e w' => e = .returned (.int .u64 (lfN x : Nat)) ∧ RowKit.Below w.heap.size w w' := by
  have HS : Hid (SlF u64v (w.alloc (.cells #[.int .u64 x] 25)) (some ⟨w.heap.size, 0, none⟩) w.heap.size 0 1 [x]) :=
    SlF.row (World.rowIs_alloc w #[.int .u64 x] 25 (fun _ => u64v x) one_at) rfl (by decide) one_of
  have HB : Hid (RowKit.Below w.heap.size w (w.alloc (.cells #[.int .u64 x] 25))) := (Below.refl _ _).alloc (Nat.le_refl _) _
  have K := Lib.hid (fun w p b (hS : SlF u64v w p b 0 1 [x]) => mark_any 0 [x] p b 0 1 1 w (by decide) hS (by decide))
  have E := Lib.hid (blk1 x)
  go_enter Tryd.func36, Tryd.ntmps36
  go_wp2_with fail
  refine (K.out _ _ _ HS.out).mono ?_
  rintro _ w1 ⟨rfl, hb⟩
  have HB1 := Lib.hid (HB.out.trans (hb.mono (by simp)))
  clear hb
  go_wp2
  go_ret
  exact ⟨ret_u64 (by rw [E.out]), HB1.out⟩
set_option maxRecDepth 100000 in
set_option maxHeartbeats 400000 in
theorem pair_any (x y : Nat) (w : World) : Calls Tryd.prog 42 #[.int .u64 x, .int .u64 y] w fun e w' => e = .returned (.int .u64 (prN x y : Nat)) ∧ RowKit.Below w.heap.size w w' := by
  have HS : Hid (SlF u64v (w.alloc (.cells #[.int .u64 x, .int .u64 y] 25)) (some ⟨w.heap.size, 0, none⟩) w.heap.size 0 2 [x, y]) :=
    SlF.row (World.rowIs_alloc w #[.int .u64 x, .int .u64 y] 25 (fun j => if j = 0 then u64v x else u64v y) two_at) rfl (by decide) two_of
  have HB : Hid (RowKit.Below w.heap.size w (w.alloc (.cells #[.int .u64 x, .int .u64 y] 25))) := (Below.refl _ _).alloc (Nat.le_refl _) _
  have K := Lib.hid (fun w p b (hS : SlF u64v w p b 0 2 [x, y]) => mark_any 1 [x, y] p b 0 2 2 w (by decide) hS (by decide))
  have E := Lib.hid (blk2 x y)
  go_enter Tryd.func42, Tryd.ntmps42
  go_wp2_with fail
  refine (K.out _ _ _ HS.out).mono ?_
  rintro _ w1 ⟨rfl, hb⟩
  have HB1 := Lib.hid (HB.out.trans (hb.mono (by simp)))
  clear hb
  go_wp2
  go_ret
  exact ⟨ret_u64 (by rw [E.out]), HB1.out⟩
end Go.Proofs.YtlbaggljmbkfdaaDoor
