/-
  ZK: several texts in one.
-/
import Derived.Test.YtjifiijgghpniaaZI
import Derived.Test.YtjifiijgghpniaaZH
import Derived.Test.YtjifiijgghpniaaZJ
/-
  The walk of the law on operands.
-/
namespace Go.Proofs.Ytjifiijgghpniaa
open Go.RowKit Un MapKept

/-- An expression's operands lie as they lay, in all later worlds. -/
theorem kids_at {w : World} {A : Nat → Prop} {t : Nd} {x : Kd} (hx : NdM w A t x) : ∃ bq off, (0 < t.ks.length → x.q = some ⟨bq, off, none⟩) ∧ t.ks.length ≤ 9223372036854775807 ∧ ∀ i (hi : i < t.ks.length), ∃ y : Kd, ∀ V, RowKit.Below w.heap.size w V → (∀ (j : Nat) (v : Value), (nC t.ks[i] y)[j]? = some v → V.cell? ⟨bq, off + i * 10 + j, none⟩ = some v) ∧ NdM V A t.ks[i] y := by
  obtain ⟨op, pl, nm, n, d, u, ks⟩ := t
  simp only [NdM] at hx
  obtain ⟨b, off, hp, hkl, hK⟩ := hx
  refine ⟨b, off, fun h => (hp h).1, hkl, fun i hi => ?_⟩
  obtain ⟨y, h1, h2⟩ := KdM.get hK i hi
  exact ⟨y, fun V hV => ⟨fun j v hv => (hV.cell (p := ⟨b, off + i * 10 + j, none⟩) (hp (by have : i < ks.length := hi; show 0 < ks.length; omega)).2.2).trans (h1 j v hv), NdM.bel hV h2⟩⟩
theorem nC_nine (t : Nd) (x : Kd) : (nC t x)[9]? = some (.slice x.q t.ks.length x.c) := by cases t; rfl
theorem nin_kid {t : Nd} (h : nin t) (i : Nat) (hi : i < t.ks.length) : nin t.ks[i] := by
  obtain ⟨op, pl, nm, n, d, u, ks⟩ := t
  simp only [nin] at h
  exact nins_get ks i hi h.2.2
theorem ofV_ok {L : List Dc} {t : Nd} {u : U} (h : ofV vld L t = .ok u) : (rightD L && form vld t) = true ∧ fnd (Un.facts L) t = .ok u := by
  unfold ofV at h
  split at h
  · rename_i hh; exact ⟨hh, h⟩
  · cases h
theorem ofV_ne {L : List Dc} {t : Nd} {e q : Int} (h : ofV vld L t = .er e q) : e ≠ 0 := by
  unfold ofV at h
  split at h
  · rcases fnd_ne _ _ _ h with h | h <;> omega
  · cases h; omega
theorem ofV_of {L : List Dc} {t : Nd} {u : U} (h1 : (rightD L && form vld t) = true) (h2 : fnd (Un.facts L) t = .ok u) : ofV vld L t = .ok u := by
  unfold ofV
  rw [if_pos h1]
  exact h2
theorem ofV_kid {L : List Dc} {t : Nd} {u : U} (h : ofV vld L t = .ok u) (i : Nat) (hi : i < t.ks.length) : ∃ v, ofV vld L t.ks[i] = .ok v := by
  obtain ⟨h1, h2⟩ := ofV_ok h
  rw [Bool.and_eq_true] at h1
  have hm : t.ks[i] ∈ t.ks := List.getElem_mem hi
  obtain ⟨v, hv⟩ := parts h1.2 h2 hm
  exact ⟨v, ofV_of (by rw [h1.1, form_kid h1.2 hm]; rfl) hv⟩
set_option maxRecDepth 100000 in
set_option maxHeartbeats 8000000 in
theorem parts_law (L : List Dc) (t : Nd) (hn : nin t) (p : Option Addr) (b off c : Nat) (A : Nat → Prop) (x : Kd) (w : World) (hS : SlR w p b off L.length 8 (L.map dC)) (hx : NdM w A t x) :
    Calls Try.prog 5 #[.slice p L.length c, nV t x] w fun e w' => e = .returned (.bool true) ∧ RowKit.Below w.heap.size w w' := by
  have KF := Lib.hid (fun V (hV : RowKit.Below w.heap.size w V) => lFewNode_any t A x V (hx.bel hV))
  have KO := Lib.hid (fun V (hV : RowKit.Below w.heap.size w V) => uOf_any L t hn p b off c A x V (hS.bel hV) (hx.bel hV))
  have KV := Lib.hid (fun V (hV : RowKit.Below w.heap.size w V) => rValid_any L t hn p b off c A x V (hS.bel hV) (hx.bel hV))
  obtain ⟨bq, oq, hq, hkl, hk⟩ := kids_at hx
  have KK : Hid (∀ u, ofV vld L t = .ok u → ∀ i, i < t.ks.length → ∃ (li : List Value) (u' : U), li.length = 10 ∧ ∀ V, RowKit.Below w.heap.size w V → (∀ (j : Nat) (v : Value), li[j]? = some v → V.cell? ⟨bq, oq + i * 10 + j, none⟩ = some v) ∧ Calls Try.prog 13 #[.slice p L.length c, .agg li.toArray] V fun e w' => e = .returned (.tuple #[.agg (uC u').toArray, .int .i64 0, .int .i64 0]) ∧ RowKit.Below V.heap.size V w') := fun u hu i hi => by
    obtain ⟨y, hy⟩ := hk i hi
    obtain ⟨v, hv⟩ := ofV_kid hu i hi
    refine ⟨nC t.ks[i] y, v, nC_len _ _, fun V hV => ⟨(hy V hV).1, ?_⟩⟩
    have := uOf_any L t.ks[i] (nin_kid hn i hi) p b off c A y V (hS.bel hV) (hy V hV).2
    rw [hv] at this
    exact this
  have HG : Hid (∀ u, ofV vld L t = .ok u → (rightD L && form vld t) = true) := fun u h => (ofV_ok h).1
  have HE : Hid (∀ e q, ofV vld L t = .er e q → e ≠ 0) := fun e q h => ofV_ne h
  have HQ := Lib.hid hq
  obtain ⟨l, hl⟩ : ∃ l, l = nC t x := ⟨_, rfl⟩
  have hv : nV t x = .agg l.toArray := by rw [hl]; rfl
  have h9 : l[9]? = some (.slice x.q t.ks.length x.c) := by rw [hl]; exact nC_nine t x
  have hln : l.length = 10 := by rw [hl]; exact nC_len t x
  rw [hv] at KF KO KV ⊢
  clear hl hv hk hx hn hq
  have hmx := hS.max
  clear hS
  generalize ofV vld L t = g at *
  generalize (rightD L && form vld t) = rv at *
  generalize decide (0 ≤ left 30 400 t) = few at *
  generalize t.ks.length = n at *
  generalize x.q = xq at *
  generalize x.c = xc at *
  generalize L.length = m at *
  have ha := (Below.refl w.heap.size w).alloc (Nat.le_refl _) (.cells l.toArray 32)
  have X0 := Lib.hid (BoxL.new w l 32)
  have H9 := Lib.hid h9
  have hsz : (w.alloc (.cells l.toArray 32)).heap.size = w.heap.size + 1 := by simp
  have B0 := Lib.hid ha
  clear ha h9
  go_enter Try.func5, Try.ntmps5
  go_wp2_with fail
  generalize w.alloc (.cells l.toArray 32) = W0 at *
  have hxl : 0 < l.length := by omega
  refine (lhead_any _).mono ?_
  rintro _ V1 ⟨rfl, hb⟩
  have BB := Lib.hid (B0.out.trans (hb.mono B0.out.size))
  have XX := Lib.hid (X0.out.bel hxl hb)
  clear hb B0 X0
  by_cases hL : 20 < m
  · have hz : (20 : Int) < (m : Int) := by omega
    go_wp2_with fail
    go_ret
    exact ⟨rfl, BB.out⟩
  have hz : ¬ (20 : Int) < (m : Int) := by omega
  have hd : decide ((20 : Int) < (m : Int)) = false := decide_eq_false hz
  go_wp2_with ((with_reducible show wpList _ _ _ ({ dst := some 18, op := _, type := _, pos := _, after := _, guard := _ } :: _) _ _); refine wl_loadG (by first | rfl | (rw [hd]; rfl)) rfl rfl (load_row 32 10 (by kernel_rfl) (by kernel_rfl) _ _ l hln (fun j v hv => (XX.out j v hv).1)) ?_; simp only [Act.put, List.setIfInBounds_toArray, List.set_cons_zero, List.set_cons_succ])
  refine (KF.out _ BB.out).mono ?_
  rintro _ V2 ⟨rfl, hb⟩
  replace BB := Lib.hid (BB.out.trans (hb.mono BB.out.size))
  replace XX := Lib.hid (XX.out.bel hxl hb)
  clear hb KF
  cases few with
  | false =>
    go_wp2_with fail
    go_ret
    exact ⟨rfl, BB.out⟩
  | true =>
    go_wp2_with ((with_reducible show wpList _ _ _ ({ dst := some 25, op := _, type := _, pos := _, after := _, guard := _ } :: _) _ _); refine wl_loadP rfl rfl rfl (load_row 32 10 (by kernel_rfl) (by kernel_rfl) _ _ l hln (fun j v hv => (XX.out j v hv).1)) ?_; simp only [Act.put, List.setIfInBounds_toArray, List.set_cons_zero, List.set_cons_succ])
    refine (KO.out _ BB.out).mono ?_
    rintro _ V3 ⟨he, hb⟩
    replace BB := Lib.hid (BB.out.trans (hb.mono BB.out.size))
    replace XX := Lib.hid (XX.out.bel hxl hb)
    clear hb KO
    cases g with
    | er E q =>
      have hE := HE.out E q rfl
      replace he : _ = Ending.returned (.tuple #[.agg (uC uNum).toArray, .int .i64 E, .int .i64 q]) := he
      subst he
      go_wp2_with ((with_reducible show wpList _ _ _ ({ dst := some 6, op := _, type := _, pos := _, after := _, guard := _ } :: _) _ _); refine wl_ubox (L := (uC uNum)) rfl rfl rfl rfl rfl (by simp [uC, Value.oneCell']) rfl rfl ?_; intro V4 hb hs hx; replace BB := Lib.hid (BB.out.trans (hb.mono BB.out.size)); replace XX := Lib.hid (XX.out.bel hxl hb); clear hb hx hs; simp only [Act.put, List.setIfInBounds_toArray, List.set_cons_zero, List.set_cons_succ])
      go_ret
      exact ⟨rfl, BB.out⟩
    | ok u =>
      replace he : _ = Ending.returned (.tuple #[.agg (uC u).toArray, .int .i64 0, .int .i64 0]) := he
      subst he
      have hrv := HG.out u rfl
      subst hrv
      have KK := Lib.hid (KK.out u rfl)
      clear HE HG
      go_wp2_with ((with_reducible show wpList _ _ _ ({ dst := some 6, op := _, type := _, pos := _, after := _, guard := _ } :: _) _ _); refine wl_ubox (L := (uC u)) rfl rfl rfl rfl rfl (by simp [uC, Value.oneCell']) rfl rfl ?_; intro V4 hb hs hx; replace BB := Lib.hid (BB.out.trans (hb.mono BB.out.size)); replace XX := Lib.hid (XX.out.bel hxl hb); clear hb hx hs; simp only [Act.put, List.setIfInBounds_toArray, List.set_cons_zero, List.set_cons_succ])
      rename_i K4 hK4
      go_loopg [9] n (fun g v9 wr => ∃ i : Nat, i ≤ n ∧ n - i ≤ g ∧ v9 = .int .i64 i ∧ Hid (RowKit.Below w.heap.size w wr) ∧ Hid (BoxL wr w.heap.size l))
      case atStart => exact ⟨0, Nat.zero_le _, by omega, by simp, BB, XX⟩
      clear BB XX
      case round =>
        obtain ⟨i, hi, hg, rfl, BB, XX⟩ := hrel
        have q9 : wr.cell? ⟨w.heap.size, 9, none⟩ = some (.slice xq n xc) := (XX.out 9 _ H9.out).1
        by_cases hlt : i < n
        · have hz : (i : Int) < (n : Int) := by omega
          have hq := HQ.out (by omega)
          subst hq
          obtain ⟨li, u', hli, hki⟩ := KK.out i hlt
          have KI := Lib.hid hki
          clear hki
          have e2 : IntKind.i64.wrap ((i : Int) + 1) = ((i + 1 : Nat) : Int) := by rw [IntWalk.i64_in _ (by omega)]; rfl
          go_wp2_with ((with_reducible show wpList _ _ _ ({ dst := some 46, op := _, type := _, pos := _, after := _, guard := _ } :: _) _ _); refine wl_loadP rfl rfl rfl (load_rowAt 32 10 (by kernel_rfl) (by kernel_rfl) _ _ _ li hli ((KI.out _ BB.out).1)) ?_; simp only [Act.put, List.setIfInBounds_toArray, List.set_cons_zero, List.set_cons_succ])
          refine (KI.out _ BB.out).2.mono ?_
          rintro _ V5 ⟨rfl, hb⟩
          clear q9
          replace BB := Lib.hid (BB.out.trans (hb.mono BB.out.size))
          replace XX := Lib.hid (XX.out.bel hxl hb)
          clear hb
          go_wp2_with ((with_reducible show wpList _ _ _ ({ dst := some 10, op := _, type := _, pos := _, after := _, guard := _ } :: _) _ _); refine wl_ubox (L := (uC u')) rfl rfl rfl rfl rfl (by simp [uC, Value.oneCell']) rfl rfl ?_; intro V6 hb hs hx; replace BB := Lib.hid (BB.out.trans (hb.mono BB.out.size)); replace XX := Lib.hid (XX.out.bel hxl hb); clear hb hx hs; simp only [Act.put, List.setIfInBounds_toArray, List.set_cons_zero, List.set_cons_succ])
          all_goals
            go_roundg (n - (i + 1))
            case measure => omega
            case rel => exact ⟨i + 1, by omega, Nat.le_refl _, by simp, BB, XX⟩
        · have hz : ¬ (i : Int) < (n : Int) := by omega
          go_wp2_with ((with_reducible show wpList _ _ _ ({ dst := some 60, op := _, type := _, pos := _, after := _, guard := _ } :: _) _ _); refine wl_loadG (by first | rfl | (rw [hd]; rfl)) rfl rfl (load_row 32 10 (by kernel_rfl) (by kernel_rfl) _ _ l hln (fun j v hv => (XX.out j v hv).1)) ?_; simp only [Act.put, List.setIfInBounds_toArray, List.set_cons_zero, List.set_cons_succ])
          refine (KV.out _ BB.out).mono ?_
          rintro _ V6 ⟨rfl, hb⟩
          replace BB := Lib.hid (BB.out.trans (hb.mono BB.out.size))
          clear hb
          go_wp2_with fail
          go_ret
          exact ⟨rfl, BB.out⟩
end Go.Proofs.Ytjifiijgghpniaa
/-
  The walk of the law on products.
-/
namespace Go.Proofs.Ytjifiijgghpniaa
open Go.RowKit Un MapKept

def gU : Got → U
  | .ok u => u
  | .er _ _ => uNum
def gE : Got → Int
  | .ok _ => 0
  | .er e _ => e
def gP : Got → Int
  | .ok _ => 0
  | .er _ p => p
theorem OfV_eq (g : Got) : OfV g = .tuple #[.agg (uC (gU g)).toArray, .int .i64 (gE g), .int .i64 (gP g)] := by cases g <;> rfl
theorem gok {L : List Dc} {t : Nd} (h : gE (ofV vld L t) = 0) : ofV vld L t = .ok (gU (ofV vld L t)) := by
  cases hg : ofV vld L t with
  | ok u => rfl
  | er e q => rw [hg] at h; exact absurd h (ofV_ne hg)
/-- The exponents of what comes out. -/
theorem ofV_small {L : List Dc} {t : Nd} : (-9 ≤ (gU (ofV vld L t)).m ∧ (gU (ofV vld L t)).m ≤ 9) ∧ (-9 ≤ (gU (ofV vld L t)).a ∧ (gU (ofV vld L t)).a ≤ 9) ∧ (-9 ≤ (gU (ofV vld L t)).d ∧ (gU (ofV vld L t)).d ≤ 9) := by
  cases hg : ofV vld L t with
  | er e q => simp [gU, uNum]
  | ok u =>
    obtain ⟨h1, h2⟩ := ofV_ok hg
    simp only [Bool.and_eq_true, rightD, form] at h1
    have := good_expo (fnd_good (facts_good h1.1.1) t 20 u h1.2.1 h2)
    simp only [gU]
    omega
/-- A node's cells, with all its operands in memory. -/
def NV (V : World) (A : Nat → Prop) (t : Nd) (l : List Value) : Prop := ∃ z, l = nC t z ∧ NdM V A t z
theorem NV.bel {V V' : World} {A : Nat → Prop} {t : Nd} {l : List Value} (h : NV V A t l) (hB : RowKit.Below V.heap.size V V') : NV V' A t l := by
  obtain ⟨z, h1, h2⟩ := h
  exact ⟨z, h1, h2.bel hB⟩
/-- The blocks of the operands may be named anew. -/
theorem NV.re {V : World} {A A' : Nat → Prop} {t : Nd} {l : List Value} (h : NV V A t l) (hA : ∀ j, A j → j < V.heap.size → A' j) : NV V A' t l := by
  obtain ⟨z, h1, h2⟩ := h
  exact ⟨z, h1, NdM.keep (Nat.le_refl _) (fun _ _ _ => rfl) hA _ _ h2⟩
/-- One block that holds no operand is changed. -/
theorem NV.kept {V V' : World} {b : Nat} {t : Nd} {l : List Value} (h : NV V (fun j => j ≠ b) t l) (hk : Kept b V V') : NV V' (fun j => j ≠ b) t l := by
  obtain ⟨z, h1, h2⟩ := h
  exact ⟨z, h1, NdM.keep hk.size (fun j hj hl => hk.block j hl hj) (fun _ h _ => h) _ _ h2⟩
theorem two_nv (op pl : Int) (ta tb : Nd) (la lb : List Value) (A : Nat → Prop) (w : World) (ha : NV w A ta la) (hb : NV w A tb lb) (hA : ∀ j, w.heap.size ≤ j → A j) :
    Calls Try.prog 24 #[.int .i64 op, .int .i64 pl, .agg la.toArray, .agg lb.toArray] w fun e w' => ∃ l, e = .returned (.agg l.toArray) ∧ Hid (l.length = 10 ∧ ∀ u ∈ l, u.oneCell' = true) ∧ Hid (NV w' A (nTwo op pl ta tb) l) ∧ RowKit.Below w.heap.size w w' := by
  obtain ⟨xa, rfl, ha⟩ := ha
  obtain ⟨xb, rfl, hb⟩ := hb
  refine (ltwo_any op pl ta tb xa xb A w ha hb).mono ?_
  rintro e w' ⟨x, rfl, hn, hB⟩
  exact ⟨nC (nTwo op pl ta tb) x, rfl, ⟨nC_len _ _, nC_one _ _⟩, ⟨x, rfl, NdM.keep (Nat.le_refl _) (fun _ _ _ => rfl) (fun j hj _ => hj.elim id (hA j)) _ _ hn⟩, hB⟩
theorem nin_two (op pl : Int) {ta tb : Nd} (h1 : nin ta) (h2 : nin tb) : nin (nTwo op pl ta tb) := by
  unfold nTwo nin; exact ⟨by unfold in64; omega, by unfold in64; omega, by simp only [nins]; exact ⟨h1, h2, trivial⟩⟩
theorem form_nv (t : Nd) (hn : nin t) (A : Nat → Prop) (l : List Value) (w : World) (h : NV w A t l) : Calls Try.prog 23 #[.agg l.toArray] w fun e w' => e = .returned (.bool (form vld t)) ∧ RowKit.Below w.heap.size w w' := by
  obtain ⟨z, rfl, h⟩ := h
  exact rForm_any t hn _ z w h
theorem of_nv (L : List Dc) (t : Nd) (hn : nin t) (p : Option Addr) (b off c : Nat) (A : Nat → Prop) (l : List Value) (w : World) (hS : SlR w p b off L.length 8 (L.map dC)) (h : NV w A t l) :
    Calls Try.prog 13 #[.slice p L.length c, .agg l.toArray] w fun e w' => e = .returned (.tuple #[.agg (uC (gU (ofV vld L t))).toArray, .int .i64 (gE (ofV vld L t)), .int .i64 (gP (ofV vld L t))]) ∧ RowKit.Below w.heap.size w w' := by
  obtain ⟨z, rfl, h⟩ := h
  rw [← OfV_eq]
  exact uOf_any L t hn p b off c _ z w hS h
theorem few_nv (t : Nd) (A : Nat → Prop) (l : List Value) (w : World) (h : NV w A t l) : Calls Try.prog 12 #[.agg l.toArray] w fun e w' => e = .returned (.bool (decide (0 ≤ left 30 400 t))) ∧ RowKit.Below w.heap.size w w' := by
  obtain ⟨z, rfl, h⟩ := h
  exact lFewNode_any t _ z w h
theorem valid_nv (L : List Dc) (t : Nd) (hn : nin t) (p : Option Addr) (b off c : Nat) (A : Nat → Prop) (l : List Value) (w : World) (hS : SlR w p b off L.length 8 (L.map dC)) (h : NV w A t l) :
    Calls Try.prog 16 #[.slice p L.length c, .agg l.toArray] w fun e w' => e = .returned (.bool (rightD L && form vld t)) ∧ RowKit.Below w.heap.size w w' := by
  obtain ⟨z, rfl, h⟩ := h
  exact rValid_any L t hn p b off c _ z w hS h
/-- The frame of the law on products. -/
inductive PrA (v0 v4 v5 v7 v8 v9 v11 v12 v14 : Value) : Act → Prop where
  | mk (u1 u2 u3 u6 u10 u13 u15 u16 u17 u18 u19 u20 u21 u22 u23 u24 u25 u26 u27 u28 u29 u30 u31 u32 u33 u34 u35 u36 u37 u38 u39 u40 u41 u42 u43 u44 u45 u46 u47 u48 u49 u50 u51 u52 u53 u54 u55 u56 u57 u58 u59 u60 u61 u62 u63 u64 u65 u66 u67 u68 u69 u70 u71 u72 u73 u74 u75 u76 u77 u78 u79 u80 u81 u82 u83 u84 u85 u86 u87 u88 u89 u90 : Value) : PrA v0 v4 v5 v7 v8 v9 v11 v12 v14 { tmps := List.toArray (v0 :: u1 :: u2 :: u3 :: v4 :: v5 :: u6 :: v7 :: v8 :: v9 :: u10 :: v11 :: v12 :: u13 :: v14 :: u15 :: u16 :: u17 :: u18 :: u19 :: u20 :: u21 :: u22 :: u23 :: u24 :: u25 :: u26 :: u27 :: u28 :: u29 :: u30 :: u31 :: u32 :: u33 :: u34 :: u35 :: u36 :: u37 :: u38 :: u39 :: u40 :: u41 :: u42 :: u43 :: u44 :: u45 :: u46 :: u47 :: u48 :: u49 :: u50 :: u51 :: u52 :: u53 :: u54 :: u55 :: u56 :: u57 :: u58 :: u59 :: u60 :: u61 :: u62 :: u63 :: u64 :: u65 :: u66 :: u67 :: u68 :: u69 :: u70 :: u71 :: u72 :: u73 :: u74 :: u75 :: u76 :: u77 :: u78 :: u79 :: u80 :: u81 :: u82 :: u83 :: u84 :: u85 :: u86 :: u87 :: u88 :: u89 :: u90 :: []), defers := [] }
set_option maxRecDepth 100000 in
set_option maxHeartbeats 8000000 in
theorem products_law (L : List Dc) (t s : Nd) (hn : nin t) (hm : nin s) (p : Option Addr) (b off c : Nat) (x y : Kd) (w : World) (hS : SlR w p b off L.length 8 (L.map dC)) (hx : NdM w (fun _ => True) t x) (hy : NdM w (fun _ => True) s y) :
    Calls Try.prog 7 #[.slice p L.length c, nV t x, nV s y] w fun e w' => e = .returned (.bool true) ∧ RowKit.Below w.heap.size w w' := by
  obtain ⟨ln, hln⟩ : ∃ l, l = nC t x := ⟨_, rfl⟩
  obtain ⟨lm, hlm⟩ : ∃ l, l = nC s y := ⟨_, rfl⟩
  have NT : NV w (fun j => j < w.heap.size) t ln := NV.re ⟨x, hln, hx⟩ (fun j _ h => h)
  have NS : NV w (fun j => j < w.heap.size) s lm := NV.re ⟨y, hlm, hy⟩ (fun j _ h => h)
  have KF1 := Lib.hid (fun V (hV : RowKit.Below w.heap.size w V) => few_nv t _ ln V (NT.bel hV))
  have KF2 := Lib.hid (fun V (hV : RowKit.Below w.heap.size w V) => few_nv s _ lm V (NS.bel hV))
  have KO1 := Lib.hid (fun V (hV : RowKit.Below w.heap.size w V) => of_nv L t hn p b off c _ ln V (hS.bel hV) (NT.bel hV))
  have KO2 := Lib.hid (fun V (hV : RowKit.Below w.heap.size w V) => of_nv L s hm p b off c _ lm V (hS.bel hV) (NS.bel hV))
  have KT1 := Lib.hid (fun V (A : Nat → Prop) (hV : RowKit.Below w.heap.size w V) (hA : ∀ j, j < w.heap.size → A j) (hB : ∀ j, V.heap.size ≤ j → A j) => two_nv 5 0 t s ln lm A V ((NT.bel hV).re fun j h _ => hA j h) ((NS.bel hV).re fun j h _ => hA j h) hB)
  have KT2 := Lib.hid (fun V l (A : Nat → Prop) (hV : RowKit.Below w.heap.size w V) (hA : ∀ j, j < w.heap.size → A j) (hB : ∀ j, V.heap.size ≤ j → A j) (h : NV V A (nTwo 5 0 t s) l) => two_nv 6 0 (nTwo 5 0 t s) s l lm A V h ((NS.bel hV).re fun j h _ => hA j h) hB)
  have KB := Lib.hid (fun V l (h : NV V (fun _ => True) (nTwo 6 0 (nTwo 5 0 t s) s) l) => form_nv (nTwo 6 0 (nTwo 5 0 t s) s) (nin_two 6 0 (nin_two 5 0 hn hm) hm) _ l V h)
  have KOB := Lib.hid (fun V l (hV : RowKit.Below w.heap.size w V) (h : NV V (fun _ => True) (nTwo 6 0 (nTwo 5 0 t s) s) l) => of_nv L (nTwo 6 0 (nTwo 5 0 t s) s) (nin_two 6 0 (nin_two 5 0 hn hm) hm) p b off c _ l V (hS.bel hV) h)
  have KS1 := Lib.hid (fun V => lsmall_any (gU (ofV vld L t)) ofV_small.1 ofV_small.2.1 ofV_small.2.2 V)
  have KS2 := Lib.hid (fun V => lsmall_any (gU (ofV vld L s)) ofV_small.1 ofV_small.2.1 ofV_small.2.2 V)
  have HG : Hid (gE (ofV vld L t) = 0 → gE (ofV vld L s) = 0 → small (gU (ofV vld L t)) = true → small (gU (ofV vld L s)) = true → form vld (nTwo 6 0 (nTwo 5 0 t s) s) = true → ofV vld L (nTwo 6 0 (nTwo 5 0 t s) s) = .ok (gU (ofV vld L t))) := fun h1 h2 h3 h4 h5 => by
    have g1 := gok h1
    have g2 := gok h2
    obtain ⟨r1, f1⟩ := ofV_ok g1
    obtain ⟨r2, f2⟩ := ofV_ok g2
    rw [Bool.and_eq_true] at r1
    exact ofV_of (by rw [r1.1, h5]; rfl) (products f1 f2 h3 h4)
  have hv1 : nV t x = .agg ln.toArray := by rw [hln]; rfl
  have hv2 : nV s y = .agg lm.toArray := by rw [hlm]; rfl
  have hl1 : ln.length = 10 := by rw [hln]; exact nC_len t x
  have hl2 : lm.length = 10 := by rw [hlm]; exact nC_len s y
  rw [hv1, hv2]
  clear hv1 hv2 hln hlm hx hy hn hm NT NS
  have hmx := hS.max
  clear hS
  generalize ofV vld L t = g1 at *
  generalize ofV vld L s = g2 at *
  generalize ofV vld L (nTwo 6 0 (nTwo 5 0 t s) s) = g3 at *
  generalize form vld (nTwo 6 0 (nTwo 5 0 t s) s) = fb at *
  generalize decide (0 ≤ left 30 400 t) = f1 at *
  generalize decide (0 ≤ left 30 400 s) = f2 at *
  generalize small (gU g1) = s1 at *
  generalize small (gU g2) = s2 at *
  generalize gE g1 = E1 at *
  generalize gE g2 = E2 at *
  generalize gP g1 = P1 at *
  generalize gP g2 = P2 at *
  generalize gU g1 = u1 at *
  generalize gU g2 = u2 at *
  obtain ⟨uf, um, ua, ud⟩ := u1
  obtain ⟨vf, vm, va, vd⟩ := u2
  simp only [uC] at KO1 KO2 KS1 KS2
  generalize L.length = m at *
  obtain ⟨W1, hW1⟩ : ∃ W1, w.alloc (.cells ln.toArray 32) = W1 := ⟨_, rfl⟩
  have a1 := (Below.refl w.heap.size w).alloc (Nat.le_refl _) (.cells ln.toArray 32)
  have x1 : BoxL W1 w.heap.size ln := by rw [← hW1]; exact box_new _ _ rfl
  rw [hW1] at a1
  have z1 : W1.heap.size = w.heap.size + 1 := by rw [← hW1]; simp
  obtain ⟨W2, hW2⟩ : ∃ W2, W1.alloc (.cells lm.toArray 32) = W2 := ⟨_, rfl⟩
  have a2 := (Below.refl W1.heap.size W1).alloc (Nat.le_refl _) (.cells lm.toArray 32)
  have x2 : BoxL W2 (w.heap.size + 1) lm := by rw [← hW2]; exact box_new _ _ z1
  rw [hW2] at a2
  have z2 : W2.heap.size = w.heap.size + 2 := by rw [← hW2]; simp; omega
  have hp1 : 0 < ln.length := by omega
  have hp2 : 0 < lm.length := by omega
  have X1 := Lib.hid (x1.bel hp1 a2)
  have X2 := Lib.hid x2
  have B0 := Lib.hid (a1.trans (a2.mono (by omega)))
  clear x1 x2 a1 a2
  go_enter Try.func7, Try.ntmps7
  go_wp2_with fail
  clear hW1 hW2
  refine (lhead_any _).mono ?_
  rintro _ V1 ⟨rfl, hb⟩
  have BB := Lib.hid (B0.out.trans (hb.mono B0.out.size))
  replace X1 := Lib.hid (X1.out.bel hp1 hb)
  replace X2 := Lib.hid (X2.out.bel hp2 hb)
  clear hb B0
  by_cases hL : 20 < m
  · have hz : (20 : Int) < (m : Int) := by omega
    go_wp2_with fail
    go_ret
    exact ⟨rfl, BB.out⟩
  have hz : ¬ (20 : Int) < (m : Int) := by omega
  have hd : decide ((20 : Int) < (m : Int)) = false := decide_eq_false hz
  go_wp2_with ((with_reducible show wpList _ _ _ ({ dst := some 23, op := _, type := _, pos := _, after := _, guard := _ } :: _) _ _); refine wl_loadG (by first | rfl | (rw [hd]; rfl) | (simp [Region.wanted, yielded, hd]; done)) rfl rfl (load_row 32 10 (by kernel_rfl) (by kernel_rfl) _ _ ln hl1 (fun j v hv => (X1.out j v hv).1)) ?_; simp only [Act.put, List.setIfInBounds_toArray, List.set_cons_zero, List.set_cons_succ])
  refine (KF1.out _ BB.out).mono ?_
  rintro _ V2 ⟨rfl, hb⟩
  replace BB := Lib.hid (BB.out.trans (hb.mono BB.out.size))
  replace X1 := Lib.hid (X1.out.bel hp1 hb)
  replace X2 := Lib.hid (X2.out.bel hp2 hb)
  clear hb KF1
  cases f1 with
  | false =>
    go_wp2_with fail
    go_ret
    exact ⟨rfl, BB.out⟩
  | true =>
    go_wp2_with ((with_reducible show wpList _ _ _ ({ dst := some 28, op := _, type := _, pos := _, after := _, guard := _ } :: _) _ _); refine wl_loadG (by first | rfl | (rw [hd]; rfl) | (simp [Region.wanted, yielded, hd]; done)) rfl rfl (load_row 32 10 (by kernel_rfl) (by kernel_rfl) _ _ lm hl2 (fun j v hv => (X2.out j v hv).1)) ?_; simp only [Act.put, List.setIfInBounds_toArray, List.set_cons_zero, List.set_cons_succ])
    refine (KF2.out _ BB.out).mono ?_
    rintro _ V3 ⟨rfl, hb⟩
    replace BB := Lib.hid (BB.out.trans (hb.mono BB.out.size))
    replace X1 := Lib.hid (X1.out.bel hp1 hb)
    replace X2 := Lib.hid (X2.out.bel hp2 hb)
    clear hb KF2
    cases f2 with
    | false =>
      go_wp2_with fail
      go_ret
      exact ⟨rfl, BB.out⟩
    | true =>
      go_wp2_with ((with_reducible show wpList _ _ _ ({ dst := some 35, op := _, type := _, pos := _, after := _, guard := _ } :: _) _ _); refine wl_loadP rfl rfl rfl (load_row 32 10 (by kernel_rfl) (by kernel_rfl) _ _ ln hl1 (fun j v hv => (X1.out j v hv).1)) ?_; simp only [Act.put, List.setIfInBounds_toArray, List.set_cons_zero, List.set_cons_succ])
      refine (KO1.out _ BB.out).mono ?_
      rintro _ V4 ⟨rfl, hb⟩
      replace BB := Lib.hid (BB.out.trans (hb.mono BB.out.size))
      replace X1 := Lib.hid (X1.out.bel hp1 hb)
      replace X2 := Lib.hid (X2.out.bel hp2 hb)
      clear hb KO1
      obtain ⟨b8, hb8⟩ : ∃ b, b = V4.heap.size := ⟨_, rfl⟩
      go_wp2_with (first | ((with_reducible show wpList _ _ _ ({ dst := some 8, op := _, type := _, pos := _, after := _, guard := _ } :: _) _ _); refine wl_ubox (L := [.bool uf, .int .i64 um, .int .i64 ua, .int .i64 ud]) rfl rfl rfl rfl rfl (by simp [Value.oneCell']) rfl rfl ?_; intro V5 hb hs hx; replace BB := Lib.hid (BB.out.trans (hb.mono BB.out.size)); replace X1 := Lib.hid (X1.out.bel hp1 hb); replace X2 := Lib.hid (X2.out.bel hp2 hb); have X8 := Lib.hid hx; clear hb hx hs; simp only [Act.put, List.setIfInBounds_toArray, List.set_cons_zero, List.set_cons_succ]; rw [← hb8] at X8 ⊢; clear hb8) | ((with_reducible show wpList _ _ _ ({ dst := some 42, op := _, type := _, pos := _, after := _, guard := _ } :: _) _ _); refine wl_loadP rfl rfl rfl (load_row 32 10 (by kernel_rfl) (by kernel_rfl) _ _ lm hl2 (fun j v hv => (X2.out j v hv).1)) ?_; simp only [Act.put, List.setIfInBounds_toArray, List.set_cons_zero, List.set_cons_succ]))
      refine (KO2.out _ BB.out).mono ?_
      rintro _ V6 ⟨rfl, hb⟩
      replace BB := Lib.hid (BB.out.trans (hb.mono BB.out.size))
      replace X1 := Lib.hid (X1.out.bel hp1 hb)
      replace X2 := Lib.hid (X2.out.bel hp2 hb)
      replace X8 := Lib.hid (X8.out.bel (by simp) hb)
      clear hb KO2
      obtain ⟨b11, hb11⟩ : ∃ b, b = V6.heap.size := ⟨_, rfl⟩
      go_wp2_with ((with_reducible show wpList _ _ _ ({ dst := some 11, op := _, type := _, pos := _, after := _, guard := _ } :: _) _ _); refine wl_ubox (L := [.bool vf, .int .i64 vm, .int .i64 va, .int .i64 vd]) rfl rfl rfl rfl rfl (by simp [Value.oneCell']) rfl rfl ?_; intro V7 hb hs hx; replace BB := Lib.hid (BB.out.trans (hb.mono BB.out.size)); replace X1 := Lib.hid (X1.out.bel hp1 hb); replace X2 := Lib.hid (X2.out.bel hp2 hb); replace X8 := Lib.hid (X8.out.bel (by simp) hb); have X11 := Lib.hid hx; clear hb hx hs; simp only [Act.put, List.setIfInBounds_toArray, List.set_cons_zero, List.set_cons_succ]; rw [← hb11] at X11 ⊢; clear hb11)
      obtain ⟨K0, hK0⟩ : ∃ K0 : Act → World → Prop, K0 = (fun a V => ∃ (b14 : Nat) (lb : List Value), PrA (.slice p m c) (.pointer (some ⟨w.heap.size, 0, none⟩)) (.pointer (some ⟨w.heap.size + 1, 0, none⟩)) (.bool true) (.pointer (some ⟨b8, 0, none⟩)) (.int .i64 E1) (.pointer (some ⟨b11, 0, none⟩)) (.int .i64 E2) (.pointer (some ⟨b14, 0, none⟩)) a ∧ Hid (RowKit.Below w.heap.size w V) ∧ Hid (BoxL V w.heap.size ln) ∧ Hid (BoxL V (w.heap.size + 1) lm) ∧ Hid (BoxL V b8 [.bool uf, .int .i64 um, .int .i64 ua, .int .i64 ud]) ∧ Hid (BoxL V b11 [.bool vf, .int .i64 vm, .int .i64 va, .int .i64 vd]) ∧ Hid (BoxL V b14 lb) ∧ Hid (lb.length = 10 ∧ ∀ u ∈ lb, u.oneCell' = true) ∧ Hid (NV V (fun _ => True) (nTwo 6 0 (nTwo 5 0 t s) s) lb)) := ⟨_, rfl⟩
      have HK0 := Lib.hid hK0
      clear hK0
      rename_i hKrest
      refine Code.wp_mono (Q := Exit.then K0 (fun _ _ _ => False)) ?_ ?_
      rotate_left
      · clear hKrest
        have hb := (Below.refl V7.heap.size V7).drew
        replace BB := Lib.hid (BB.out.trans (hb.mono BB.out.size))
        replace X1 := Lib.hid (X1.out.bel hp1 hb)
        replace X2 := Lib.hid (X2.out.bel hp2 hb)
        replace X8 := Lib.hid (X8.out.bel (by simp) hb)
        replace X11 := Lib.hid (X11.out.bel (by simp) hb)
        have hS : Hid (BoxL V7.drew w.heap.size ln) ∧ Hid (BoxL V7.drew (w.heap.size + 1) lm) := ⟨X1, X2⟩
        refine wp_region_held (S := fun w' : World => Hid (BoxL w' w.heap.size ln) ∧ Hid (BoxL w' (w.heap.size + 1) lm)) mixed ?_
        change wpAnyH _ _ _ _ _ _ _ _ V7.drew
        clear hb
        generalize V7.drew = U1 at *
        refine tk0 (v := .agg ln.toArray) (by kernel_rfl) (by kernel_rfl) (by kernel_rfl) (fun _ _ _ h => h) (Or.inl ⟨by kernel_rfl, ?_⟩) hS ?_
        · intro w' hSw
          exact ex_load rfl rfl (load_row 32 10 (by kernel_rfl) (by kernel_rfl) w' w.heap.size _ hl1 (fun j v hv => (hSw.1.out j v hv).1))
        simp only [Act.put, List.setIfInBounds_toArray, List.set_cons_zero, List.set_cons_succ]
        refine tk1 (v := .agg lm.toArray) (by kernel_rfl) (by kernel_rfl) (by kernel_rfl) (fun _ _ _ h => h) (Or.inl ⟨by kernel_rfl, ?_⟩) hS ?_
        · intro w' hSw
          exact ex_load rfl rfl (load_row 32 10 (by kernel_rfl) (by kernel_rfl) w' (w.heap.size + 1) _ hl2 (fun j v hv => (hSw.2.out j v hv).1))
        simp only [Act.put, List.setIfInBounds_toArray, List.set_cons_zero, List.set_cons_succ]
        refine tk3 (v := .agg lm.toArray) (by kernel_rfl) (by kernel_rfl) (by kernel_rfl) (fun _ _ _ h => h) (Or.inl ⟨by kernel_rfl, ?_⟩) hS ?_
        · intro w' hSw
          exact ex_load rfl rfl (load_row 32 10 (by kernel_rfl) (by kernel_rfl) w' (w.heap.size + 1) _ hl2 (fun j v hv => (hSw.2.out j v hv).1))
        simp only [Act.put, List.setIfInBounds_toArray, List.set_cons_zero, List.set_cons_succ]
        refine wpAnyH_ready (rs := [2, 5]) (by kernel_rfl) (by simp) (st2 (fun K hK => ?_) (st5 (fun K hK => ?_) AllReadyH.nil))
        · go_simp
          refine (KT1.out _ (fun _ => True) BB.out (fun _ _ => trivial) (fun _ _ => trivial)).mono ?_
          rintro _ U2 ⟨lz, rfl, -, NT, hb⟩
          go_wp2_with fail
          replace BB := Lib.hid (BB.out.trans (hb.mono BB.out.size))
          replace X1 := Lib.hid (X1.out.bel hp1 hb)
          replace X2 := Lib.hid (X2.out.bel hp2 hb)
          replace X8 := Lib.hid (X8.out.bel (by simp) hb)
          replace X11 := Lib.hid (X11.out.bel (by simp) hb)
          have hS : Hid (BoxL U2 w.heap.size ln) ∧ Hid (BoxL U2 (w.heap.size + 1) lm) := ⟨X1, X2⟩
          clear hb
          refine hK.out _ _ ?_ (fun hHeld => ?_)
          · exact hS
          clear hK K
          try simp only [Act.put, List.setIfInBounds_toArray, List.set_cons_zero, List.set_cons_succ]
          refine wpAnyH_ready (rs := [4, 5]) (by kernel_rfl) (by simp) (st4 (fun K hK => ?_) (st5 (fun K hK => ?_) AllReadyH.nil))
          · go_simp
            refine (KT2.out _ lz (fun _ => True) BB.out (fun _ _ => trivial) (fun _ _ => trivial) NT.out).mono ?_
            rintro _ U3 ⟨lb, rfl, HL, NB, hb⟩
            go_wp2_with fail
            clear NT
            replace BB := Lib.hid (BB.out.trans (hb.mono BB.out.size))
            replace X1 := Lib.hid (X1.out.bel hp1 hb)
            replace X2 := Lib.hid (X2.out.bel hp2 hb)
            replace X8 := Lib.hid (X8.out.bel (by simp) hb)
            replace X11 := Lib.hid (X11.out.bel (by simp) hb)
            have hS : Hid (BoxL U3 w.heap.size ln) ∧ Hid (BoxL U3 (w.heap.size + 1) lm) := ⟨X1, X2⟩
            clear hb
            refine hK.out _ _ ?_ (fun hHeld => ?_)
            · exact hS
            clear hK K
            try simp only [Act.put, List.setIfInBounds_toArray, List.set_cons_zero, List.set_cons_succ]
            refine wpAnyH_ready (rs := [5]) (by kernel_rfl) (by simp) (st5 (fun K hK => ?_) AllReadyH.nil)
            refine (if_pos (by kernel_rfl)).mpr ?_
            refine wp_alloc rfl (alloc_node _) ?_
            have hb := (Below.refl U3.heap.size U3).alloc (Nat.le_refl _) (.cells zNodeL.toArray 32)
            have D := Lib.hid (BoxL.new U3 zNodeL 32)
            obtain ⟨U4, hU4⟩ : ∃ V, U3.alloc (.cells zNodeL.toArray 32) = V := ⟨_, rfl⟩
            rw [hU4] at hb D ⊢
            clear hU4
            obtain ⟨bn, hbn⟩ : ∃ b, b = U3.heap.size := ⟨_, rfl⟩
            have hbv : bn < U4.heap.size := by rw [hbn]; exact World.block_lt_of_cell? _ _ (D.out 0 _ rfl).1
            rw [← hbn] at D ⊢
            have hbl : w.heap.size ≤ bn := by rw [hbn]; exact BB.out.size
            have q1 : w.heap.size + 1 < bn := by rw [hbn]; exact X2.out.lt hp2
            have q8 : b8 < bn := by rw [hbn]; exact X8.out.lt (by simp)
            have q11 : b11 < bn := by rw [hbn]; exact X11.out.lt (by simp)
            replace BB := Lib.hid (BB.out.trans (hb.mono BB.out.size))
            replace X1 := Lib.hid (X1.out.bel hp1 hb)
            replace X2 := Lib.hid (X2.out.bel hp2 hb)
            replace X8 := Lib.hid (X8.out.bel (by simp) hb)
            replace X11 := Lib.hid (X11.out.bel (by simp) hb)
            replace NB := Lib.hid ((NB.out.re (A' := fun j => j ≠ bn) (fun j _ h => by omega)).bel hb)
            have hS : Hid (BoxL U4 w.heap.size ln) ∧ Hid (BoxL U4 (w.heap.size + 1) lm) := ⟨X1, X2⟩
            clear hb hbn
            refine hK.out _ _ ?_ (fun hHeld => ?_)
            · exact hS
            clear hK K
            try simp only [Act.put, List.setIfInBounds_toArray, List.set_cons_zero, List.set_cons_succ]
            refine wpAnyH_ready (rs := [6]) (by kernel_rfl) (by simp) (st6 (fun K hK => ?_) AllReadyH.nil)
            refine (if_pos (by kernel_rfl)).mpr ?_
            refine wp_store rfl rfl rfl (store_row 32 10 (by kernel_rfl) U4 bn zNodeL lb D.out rfl HL.out.1 HL.out.2) ?_
            replace D := Lib.hid (D.out.cells (L := lb) HL.out.1)
            have hk := kept_setCells (b := bn) (w := U4) lb 0 U4 (Kept.refl _ _)
            replace BB := Lib.hid (below_kept BB.out hk hbl)
            replace X1 := Lib.hid (X1.out.call hp1 hk (by omega))
            replace X2 := Lib.hid (X2.out.call hp2 hk (by omega))
            replace X8 := Lib.hid (X8.out.call (by simp) hk (by omega))
            replace X11 := Lib.hid (X11.out.call (by simp) hk (by omega))
            replace NB := Lib.hid ((NV.kept NB.out hk).re (fun _ _ _ => trivial))
            have hS : Hid (BoxL _ w.heap.size ln) ∧ Hid (BoxL _ (w.heap.size + 1) lm) := ⟨X1, X2⟩
            clear hk
            generalize U4.setCells bn 0 lb = U5 at *
            refine hK.out _ _ ?_ (fun hHeld => ?_)
            · exact hS
            clear hK K
            try simp only [Act.put]
            refine wpAnyH_done (by kernel_rfl) ?_ _
            clear hS
            show K0 _ _
            rw [HK0.out]
            exact ⟨bn, lb, by constructor, BB, X1, X2, X8, X11, D, HL, NB⟩
          · refine (if_pos (by kernel_rfl)).mpr ?_
            refine wp_alloc rfl (alloc_node _) ?_
            have hb := (Below.refl U2.heap.size U2).alloc (Nat.le_refl _) (.cells zNodeL.toArray 32)
            have D := Lib.hid (BoxL.new U2 zNodeL 32)
            obtain ⟨U6, hU6⟩ : ∃ V, U2.alloc (.cells zNodeL.toArray 32) = V := ⟨_, rfl⟩
            rw [hU6] at hb D ⊢
            clear hU6
            obtain ⟨bn, hbn⟩ : ∃ b, b = U2.heap.size := ⟨_, rfl⟩
            have hbv : bn < U6.heap.size := by rw [hbn]; exact World.block_lt_of_cell? _ _ (D.out 0 _ rfl).1
            rw [← hbn] at D ⊢
            have hbl : w.heap.size ≤ bn := by rw [hbn]; exact BB.out.size
            have q1 : w.heap.size + 1 < bn := by rw [hbn]; exact X2.out.lt hp2
            have q8 : b8 < bn := by rw [hbn]; exact X8.out.lt (by simp)
            have q11 : b11 < bn := by rw [hbn]; exact X11.out.lt (by simp)
            replace BB := Lib.hid (BB.out.trans (hb.mono BB.out.size))
            replace X1 := Lib.hid (X1.out.bel hp1 hb)
            replace X2 := Lib.hid (X2.out.bel hp2 hb)
            replace X8 := Lib.hid (X8.out.bel (by simp) hb)
            replace X11 := Lib.hid (X11.out.bel (by simp) hb)
            replace NT := Lib.hid ((NT.out.re (A' := fun j => j ≠ bn) (fun j _ h => by omega)).bel hb)
            have hS : Hid (BoxL U6 w.heap.size ln) ∧ Hid (BoxL U6 (w.heap.size + 1) lm) := ⟨X1, X2⟩
            clear hb hbn
            refine hK.out _ _ ?_ (fun hHeld => ?_)
            · exact hS
            clear hK K
            try simp only [Act.put, List.setIfInBounds_toArray, List.set_cons_zero, List.set_cons_succ]
            refine wpAnyH_ready (rs := [4]) (by kernel_rfl) (by simp) (st4 (fun K hK => ?_) AllReadyH.nil)
            go_simp
            refine (KT2.out _ lz (fun j => j ≠ bn) BB.out (fun j h => by omega) (fun j h => by omega) NT.out).mono ?_
            rintro _ U7 ⟨lb, rfl, HL, NB, hb⟩
            go_wp2_with fail
            clear NT
            replace BB := Lib.hid (BB.out.trans (hb.mono BB.out.size))
            replace X1 := Lib.hid (X1.out.bel hp1 hb)
            replace X2 := Lib.hid (X2.out.bel hp2 hb)
            replace X8 := Lib.hid (X8.out.bel (by simp) hb)
            replace X11 := Lib.hid (X11.out.bel (by simp) hb)
            replace D := Lib.hid (D.out.bel (by decide) hb)
            replace hbv : bn < U7.heap.size := Nat.lt_of_lt_of_le hbv hb.size
            have hS : Hid (BoxL U7 w.heap.size ln) ∧ Hid (BoxL U7 (w.heap.size + 1) lm) := ⟨X1, X2⟩
            clear hb
            refine hK.out _ _ ?_ (fun hHeld => ?_)
            · exact hS
            clear hK K
            try simp only [Act.put, List.setIfInBounds_toArray, List.set_cons_zero, List.set_cons_succ]
            refine wpAnyH_ready (rs := [6]) (by kernel_rfl) (by simp) (st6 (fun K hK => ?_) AllReadyH.nil)
            refine (if_pos (by kernel_rfl)).mpr ?_
            refine wp_store rfl rfl rfl (store_row 32 10 (by kernel_rfl) U7 bn zNodeL lb D.out rfl HL.out.1 HL.out.2) ?_
            replace D := Lib.hid (D.out.cells (L := lb) HL.out.1)
            have hk := kept_setCells (b := bn) (w := U7) lb 0 U7 (Kept.refl _ _)
            replace BB := Lib.hid (below_kept BB.out hk hbl)
            replace X1 := Lib.hid (X1.out.call hp1 hk (by omega))
            replace X2 := Lib.hid (X2.out.call hp2 hk (by omega))
            replace X8 := Lib.hid (X8.out.call (by simp) hk (by omega))
            replace X11 := Lib.hid (X11.out.call (by simp) hk (by omega))
            replace NB := Lib.hid ((NV.kept NB.out hk).re (fun _ _ _ => trivial))
            have hS : Hid (BoxL _ w.heap.size ln) ∧ Hid (BoxL _ (w.heap.size + 1) lm) := ⟨X1, X2⟩
            clear hk
            generalize U7.setCells bn 0 lb = U8 at *
            refine hK.out _ _ ?_ (fun hHeld => ?_)
            · exact hS
            clear hK K
            try simp only [Act.put]
            refine wpAnyH_done (by kernel_rfl) ?_ _
            clear hS
            show K0 _ _
            rw [HK0.out]
            exact ⟨bn, lb, by constructor, BB, X1, X2, X8, X11, D, HL, NB⟩
        · refine (if_pos (by kernel_rfl)).mpr ?_
          refine wp_alloc rfl (alloc_node _) ?_
          have hb := (Below.refl U1.heap.size U1).alloc (Nat.le_refl _) (.cells zNodeL.toArray 32)
          have D := Lib.hid (BoxL.new U1 zNodeL 32)
          obtain ⟨U9, hU9⟩ : ∃ V, U1.alloc (.cells zNodeL.toArray 32) = V := ⟨_, rfl⟩
          rw [hU9] at hb D ⊢
          clear hU9
          obtain ⟨bn, hbn⟩ : ∃ b, b = U1.heap.size := ⟨_, rfl⟩
          have hbv : bn < U9.heap.size := by rw [hbn]; exact World.block_lt_of_cell? _ _ (D.out 0 _ rfl).1
          rw [← hbn] at D ⊢
          have hbl : w.heap.size ≤ bn := by rw [hbn]; exact BB.out.size
          have q1 : w.heap.size + 1 < bn := by rw [hbn]; exact X2.out.lt hp2
          have q8 : b8 < bn := by rw [hbn]; exact X8.out.lt (by simp)
          have q11 : b11 < bn := by rw [hbn]; exact X11.out.lt (by simp)
          replace BB := Lib.hid (BB.out.trans (hb.mono BB.out.size))
          replace X1 := Lib.hid (X1.out.bel hp1 hb)
          replace X2 := Lib.hid (X2.out.bel hp2 hb)
          replace X8 := Lib.hid (X8.out.bel (by simp) hb)
          replace X11 := Lib.hid (X11.out.bel (by simp) hb)
          have hS : Hid (BoxL U9 w.heap.size ln) ∧ Hid (BoxL U9 (w.heap.size + 1) lm) := ⟨X1, X2⟩
          clear hb hbn
          refine hK.out _ _ ?_ (fun hHeld => ?_)
          · exact hS
          clear hK K
          try simp only [Act.put, List.setIfInBounds_toArray, List.set_cons_zero, List.set_cons_succ]
          refine wpAnyH_ready (rs := [2]) (by kernel_rfl) (by simp) (st2 (fun K hK => ?_) AllReadyH.nil)
          go_simp
          refine (KT1.out _ (fun j => j ≠ bn) BB.out (fun j h => by omega) (fun j h => by omega)).mono ?_
          rintro _ U10 ⟨lz, rfl, -, NT, hb⟩
          go_wp2_with fail
          replace BB := Lib.hid (BB.out.trans (hb.mono BB.out.size))
          replace X1 := Lib.hid (X1.out.bel hp1 hb)
          replace X2 := Lib.hid (X2.out.bel hp2 hb)
          replace X8 := Lib.hid (X8.out.bel (by simp) hb)
          replace X11 := Lib.hid (X11.out.bel (by simp) hb)
          replace D := Lib.hid (D.out.bel (by decide) hb)
          replace hbv : bn < U10.heap.size := Nat.lt_of_lt_of_le hbv hb.size
          have hS : Hid (BoxL U10 w.heap.size ln) ∧ Hid (BoxL U10 (w.heap.size + 1) lm) := ⟨X1, X2⟩
          clear hb
          refine hK.out _ _ ?_ (fun hHeld => ?_)
          · exact hS
          clear hK K
          try simp only [Act.put, List.setIfInBounds_toArray, List.set_cons_zero, List.set_cons_succ]
          refine wpAnyH_ready (rs := [4]) (by kernel_rfl) (by simp) (st4 (fun K hK => ?_) AllReadyH.nil)
          go_simp
          refine (KT2.out _ lz (fun j => j ≠ bn) BB.out (fun j h => by omega) (fun j h => by omega) NT.out).mono ?_
          rintro _ U11 ⟨lb, rfl, HL, NB, hb⟩
          go_wp2_with fail
          clear NT
          replace BB := Lib.hid (BB.out.trans (hb.mono BB.out.size))
          replace X1 := Lib.hid (X1.out.bel hp1 hb)
          replace X2 := Lib.hid (X2.out.bel hp2 hb)
          replace X8 := Lib.hid (X8.out.bel (by simp) hb)
          replace X11 := Lib.hid (X11.out.bel (by simp) hb)
          replace D := Lib.hid (D.out.bel (by decide) hb)
          replace hbv : bn < U11.heap.size := Nat.lt_of_lt_of_le hbv hb.size
          have hS : Hid (BoxL U11 w.heap.size ln) ∧ Hid (BoxL U11 (w.heap.size + 1) lm) := ⟨X1, X2⟩
          clear hb
          refine hK.out _ _ ?_ (fun hHeld => ?_)
          · exact hS
          clear hK K
          try simp only [Act.put, List.setIfInBounds_toArray, List.set_cons_zero, List.set_cons_succ]
          refine wpAnyH_ready (rs := [6]) (by kernel_rfl) (by simp) (st6 (fun K hK => ?_) AllReadyH.nil)
          refine (if_pos (by kernel_rfl)).mpr ?_
          refine wp_store rfl rfl rfl (store_row 32 10 (by kernel_rfl) U11 bn zNodeL lb D.out rfl HL.out.1 HL.out.2) ?_
          replace D := Lib.hid (D.out.cells (L := lb) HL.out.1)
          have hk := kept_setCells (b := bn) (w := U11) lb 0 U11 (Kept.refl _ _)
          replace BB := Lib.hid (below_kept BB.out hk hbl)
          replace X1 := Lib.hid (X1.out.call hp1 hk (by omega))
          replace X2 := Lib.hid (X2.out.call hp2 hk (by omega))
          replace X8 := Lib.hid (X8.out.call (by simp) hk (by omega))
          replace X11 := Lib.hid (X11.out.call (by simp) hk (by omega))
          replace NB := Lib.hid ((NV.kept NB.out hk).re (fun _ _ _ => trivial))
          have hS : Hid (BoxL _ w.heap.size ln) ∧ Hid (BoxL _ (w.heap.size + 1) lm) := ⟨X1, X2⟩
          clear hk
          generalize U11.setCells bn 0 lb = U12 at *
          refine hK.out _ _ ?_ (fun hHeld => ?_)
          · exact hS
          clear hK K
          try simp only [Act.put]
          refine wpAnyH_done (by kernel_rfl) ?_ _
          clear hS
          show K0 _ _
          rw [HK0.out]
          exact ⟨bn, lb, by constructor, BB, X1, X2, X8, X11, D, HL, NB⟩
      intro e a v hv
      have hen : e = .normal ∧ K0 a v := by cases e <;> first | exact ⟨rfl, hv⟩ | exact hv.elim
      clear hv
      obtain ⟨rfl, hv⟩ := hen
      rw [HK0.out] at hv
      clear HK0 BB X1 X2 X8 X11 KT1 KT2
      obtain ⟨b14, lb, ha, BB, -, -, X8, X11, X14, HL, NB⟩ := hv
      cases ha
      refine hKrest _ _ ?_
      clear hKrest
      have hlb := HL.out.1
      have hp14 : 0 < lb.length := by omega
      by_cases hE1 : E1 = 0
      rotate_left
      · have hz1 : ¬ E1 = 0 := hE1
        go_wp2_with fail
        go_ret
        exact ⟨rfl, BB.out⟩
      subst hE1
      by_cases hE2 : E2 = 0
      rotate_left
      · have hz2 : ¬ E2 = 0 := hE2
        go_wp2_with fail
        go_ret
        exact ⟨rfl, BB.out⟩
      subst hE2
      go_wp2_with ((with_reducible show wpList _ _ _ ({ dst := some 59, op := _, type := _, pos := _, after := _, guard := _ } :: _) _ _); refine wl_loadG (by first | rfl | (rw [hd]; rfl) | (simp [Region.wanted, yielded, hd]; done)) rfl rfl (load_row 29 4 (by kernel_rfl) (by kernel_rfl) _ _ [.bool uf, .int .i64 um, .int .i64 ua, .int .i64 ud] rfl (fun j v hv => (X8.out j v hv).1)) ?_; simp only [Act.put, List.setIfInBounds_toArray, List.set_cons_zero, List.set_cons_succ])
      refine (KS1.out _).mono ?_
      rintro _ V8 ⟨rfl, hb⟩
      replace BB := Lib.hid (BB.out.trans (hb.mono BB.out.size))
      replace X8 := Lib.hid (X8.out.bel (by simp) hb)
      replace X11 := Lib.hid (X11.out.bel (by simp) hb)
      replace X14 := Lib.hid (X14.out.bel hp14 hb)
      replace NB := Lib.hid (NB.out.bel hb)
      clear hb KS1
      cases s1 with
      | false =>
        go_wp2_with fail
        go_ret
        exact ⟨rfl, BB.out⟩
      | true =>
        go_wp2_with ((with_reducible show wpList _ _ _ ({ dst := some 64, op := _, type := _, pos := _, after := _, guard := _ } :: _) _ _); refine wl_loadG (by first | rfl | (rw [hd]; rfl) | (simp [Region.wanted, yielded, hd]; done)) rfl rfl (load_row 29 4 (by kernel_rfl) (by kernel_rfl) _ _ [.bool vf, .int .i64 vm, .int .i64 va, .int .i64 vd] rfl (fun j v hv => (X11.out j v hv).1)) ?_; simp only [Act.put, List.setIfInBounds_toArray, List.set_cons_zero, List.set_cons_succ])
        refine (KS2.out _).mono ?_
        rintro _ V9 ⟨rfl, hb⟩
        replace BB := Lib.hid (BB.out.trans (hb.mono BB.out.size))
        replace X8 := Lib.hid (X8.out.bel (by simp) hb)
        replace X11 := Lib.hid (X11.out.bel (by simp) hb)
        replace X14 := Lib.hid (X14.out.bel hp14 hb)
        replace NB := Lib.hid (NB.out.bel hb)
        clear hb KS2
        cases s2 with
        | false =>
          go_wp2_with fail
          go_ret
          exact ⟨rfl, BB.out⟩
        | true =>
          go_wp2_with ((with_reducible show wpList _ _ _ ({ dst := some 69, op := _, type := _, pos := _, after := _, guard := _ } :: _) _ _); refine wl_loadG (by first | rfl | (rw [hd]; rfl) | (simp [Region.wanted, yielded, hd]; done)) rfl rfl (load_row 32 10 (by kernel_rfl) (by kernel_rfl) _ _ lb hlb (fun j v hv => (X14.out j v hv).1)) ?_; simp only [Act.put, List.setIfInBounds_toArray, List.set_cons_zero, List.set_cons_succ])
          refine (KB.out _ lb NB.out).mono ?_
          rintro _ VA ⟨rfl, hb⟩
          replace BB := Lib.hid (BB.out.trans (hb.mono BB.out.size))
          replace X8 := Lib.hid (X8.out.bel (by simp) hb)
          replace X11 := Lib.hid (X11.out.bel (by simp) hb)
          replace X14 := Lib.hid (X14.out.bel hp14 hb)
          replace NB := Lib.hid (NB.out.bel hb)
          clear hb KB
          cases fb with
          | false =>
            go_wp2_with fail
            go_ret
            exact ⟨rfl, BB.out⟩
          | true =>
            have hg3 := HG.out (by first | rfl | trivial) (by first | rfl | trivial) (by first | rfl | trivial) (by first | rfl | trivial) (by first | rfl | trivial)
            subst hg3
            clear HG
            go_wp2_with ((with_reducible show wpList _ _ _ ({ dst := some 76, op := _, type := _, pos := _, after := _, guard := _ } :: _) _ _); refine wl_loadP rfl rfl rfl (load_row 32 10 (by kernel_rfl) (by kernel_rfl) _ _ lb hlb (fun j v hv => (X14.out j v hv).1)) ?_; simp only [Act.put, List.setIfInBounds_toArray, List.set_cons_zero, List.set_cons_succ])
            refine (KOB.out _ lb BB.out NB.out).mono ?_
            rintro _ VB ⟨he, hb⟩
            replace he : _ = Ending.returned (.tuple #[.agg ([.bool uf, .int .i64 um, .int .i64 ua, .int .i64 ud] : List Value).toArray, .int .i64 0, .int .i64 0]) := he
            subst he
            replace BB := Lib.hid (BB.out.trans (hb.mono BB.out.size))
            replace X8 := Lib.hid (X8.out.bel (by simp) hb)
            replace X11 := Lib.hid (X11.out.bel (by simp) hb)
            replace X14 := Lib.hid (X14.out.bel hp14 hb)
            replace NB := Lib.hid (NB.out.bel hb)
            clear hb KOB
            go_wp2_with (first | ((with_reducible show wpList _ _ _ ({ dst := some 15, op := _, type := _, pos := _, after := _, guard := _ } :: _) _ _); refine wl_ubox (L := [.bool uf, .int .i64 um, .int .i64 ua, .int .i64 ud]) rfl rfl rfl rfl rfl (by simp [Value.oneCell']) rfl rfl ?_; intro VC hb hs hx; replace BB := Lib.hid (BB.out.trans (hb.mono BB.out.size)); replace X8 := Lib.hid (X8.out.bel (by simp) hb); replace X11 := Lib.hid (X11.out.bel (by simp) hb); replace X14 := Lib.hid (X14.out.bel hp14 hb); replace NB := Lib.hid (NB.out.bel hb); have X15 := Lib.hid hx; clear hb hx hs; simp only [Act.put, List.setIfInBounds_toArray, List.set_cons_zero, List.set_cons_succ]) | ((with_reducible show wpList _ _ _ ({ dst := some 87, op := _, type := _, pos := _, after := _, guard := _ } :: _) _ _); refine wl_loadG (by first | rfl | (rw [hd]; rfl) | (simp [Region.wanted, yielded, hd]; done)) rfl rfl (load_row 29 4 (by kernel_rfl) (by kernel_rfl) _ _ [.bool uf, .int .i64 um, .int .i64 ua, .int .i64 ud] rfl (fun j v hv => (X15.out j v hv).1)) ?_; simp only [Act.put, List.setIfInBounds_toArray, List.set_cons_zero, List.set_cons_succ]) | ((with_reducible show wpList _ _ _ ({ dst := some 88, op := _, type := _, pos := _, after := _, guard := _ } :: _) _ _); refine wl_loadG (by first | rfl | (rw [hd]; rfl) | (simp [Region.wanted, yielded, hd]; done)) rfl rfl (load_row 29 4 (by kernel_rfl) (by kernel_rfl) _ _ [.bool uf, .int .i64 um, .int .i64 ua, .int .i64 ud] rfl (fun j v hv => (X8.out j v hv).1)) ?_; simp only [Act.put, List.setIfInBounds_toArray, List.set_cons_zero, List.set_cons_succ]))
            go_ret
            exact ⟨rfl, BB.out⟩
end Go.Proofs.Ytjifiijgghpniaa
