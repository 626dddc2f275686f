/-
  Contract of the reference's Scale.
-/
import Derived.Test.YtmjdolgcgbiajaaPRAdd
namespace Go.Proofs.Ytmjdolgcgbiajaa
open Go.RowKit Go.Shelf Pw

def rfG (R : RP → RP → Bool) : RP → List RP → List RP
  | _, [] => []
  | a, b :: t => if R a b then rfG R b t else b :: rfG R b t
/-- The pieces without those that a test drops, by the piece before. -/
def rdG (R : RP → RP → Bool) : List RP → List RP
  | [] => []
  | a :: t => a :: rfG R a t
theorem rfG_snoc {R : RP → RP → Bool} : ∀ {a : RP} {l : List RP} {x : RP}, rfG R a (l ++ [x]) = if R (lastW a l) x then rfG R a l else rfG R a l ++ [x]
  | a, [], x => by
    rw [List.nil_append, rfG, rfG, lastW, rfG]
    rfl
  | a, b :: t, x => by
    rw [List.cons_append, rfG, rfG, rfG_snoc (a := b) (l := t) (x := x), lastW]
    by_cases h : R a b = true
    · rw [if_pos h, if_pos h]
    · rw [if_neg h, if_neg h]
      by_cases h2 : R (lastW b t) x = true
      · rw [if_pos h2, if_pos h2]
      · rw [if_neg h2, if_neg h2]; rfl
theorem rdG_take {R : RP → RP → Bool} {l : List RP} {k : Nat} (h0 : 0 < k) (hk : k < l.length) : rdG R (l.take (k + 1)) = if R (l[k - 1]'(by omega)) l[k] then rdG R (l.take k) else rdG R (l.take k) ++ [l[k]] := by
  cases l with
  | nil => simp at hk
  | cons a t =>
    obtain ⟨k, rfl⟩ : ∃ j, k = j + 1 := ⟨k - 1, by omega⟩
    have hk' : k < t.length := by simpa using hk
    rw [List.take_succ_cons, List.take_succ_cons, List.take_succ_eq_append_getElem hk', rdG, rdG, rfG_snoc, lastW_take (by omega)]
    simp only [Nat.add_sub_cancel, List.getElem_cons_succ]
    by_cases h2 : R ((a :: t)[k]'(by simp; omega)) t[k] = true
    · rw [if_pos h2, if_pos h2]
    · rw [if_neg h2, if_neg h2]; rfl
theorem rdG_zero {R : RP → RP → Bool} {l : List RP} (hk : 0 < l.length) : rdG R (l.take 1) = [l[0]] := by
  cases l with
  | nil => simp at hk
  | cons a t => simp [rdG, rfG]
theorem rfG_len {R : RP → RP → Bool} : ∀ {a : RP} {l : List RP}, (rfG R a l).length ≤ l.length
  | _, [] => Nat.le_refl _
  | a, b :: t => by
    rw [rfG]
    have := rfG_len (R := R) (a := b) (l := t)
    split <;> simp <;> omega
theorem rdG_len (R : RP → RP → Bool) (l : List RP) : (rdG R l).length ≤ l.length := by
  cases l with
  | nil => exact Nat.le_refl _
  | cons a t => have := rfG_len (R := R) (a := a) (l := t); simp [rdG]; omega
theorem rfG_pre {R : RP → RP → Bool} : ∀ {a : RP} {t : List RP} {k : Nat}, rfG R a (t.take k) <+: rfG R a t
  | _, [], k => by simp [rfG]
  | a, b :: t, 0 => by simp [rfG]
  | a, b :: t, k + 1 => by
    rw [List.take_succ_cons, rfG, rfG]
    split
    · exact rfG_pre
    · exact List.cons_prefix_cons.2 ⟨rfl, rfG_pre⟩
theorem rdG_pre {R : RP → RP → Bool} {l : List RP} {k : Nat} : rdG R (l.take k) <+: rdG R l := by
  cases l with
  | nil => simp [rdG]
  | cons a t =>
    cases k with
    | zero => simp [rdG]
    | succ k => rw [List.take_succ_cons, rdG, rdG]; exact List.cons_prefix_cons.2 ⟨rfl, rfG_pre⟩
/-- The test of Scale. -/
def scT (rn : Int) (a b : RP) : Bool := decide (rn = 0) || cW a b
theorem rfG_scT {rn : Int} (h : ¬ rn = 0) : ∀ {t : List RP} {a : RP}, (∀ q, q ∈ a :: t → wl q = true ∧ 0 ≤ q.f ∧ q.f ≤ 100000) → (rfG (scT rn) a t).map toAP = rf (toAP a) (t.map toAP)
  | [], _, _ => rfl
  | b :: t, a, hq => by
    have ha := hq a (by simp)
    have hb := hq b (by simp)
    have ht : ∀ q, q ∈ b :: t → wl q = true ∧ 0 ≤ q.f ∧ q.f ≤ 100000 := fun q h => hq q (List.mem_cons_of_mem _ h)
    have e : scT rn a b = cont (toAP a) (toAP b) := by
      unfold scT
      rw [decide_eq_false h, Bool.false_or, cW_is (liok_wl ha.1 (by omega)) (low_wl ha.1) (low_wl hb.1)]
    rw [rfG, List.map_cons, rf, e]
    split
    · exact rfG_scT h ht
    · rw [List.map_cons, rfG_scT h ht]
theorem rfG_zero {t : List RP} {a : RP} : rfG (scT 0) a t = [] := by
  induction t generalizing a with
  | nil => rfl
  | cons b t ih => rw [rfG, if_pos (by unfold scT; simp), ih]
/-- The pieces that are multiplied. -/
theorem rdG_scT {f : List RP} (hf : VR f) (rn rd : Int) (hq : Q.Val rn rd) : (rdG (scT rn) f).map toAP = red (if fr rn rd = 0 then (AA f).take 1 else AA f) := by
  have hd : 0 < rd := by have := hq.2.2.1; omega
  have e0 : fr rn rd = 0 ↔ rn = 0 := by
    have h := fr_eq (a := rn) (b := rd) (c := 0) (d := 1) hd (by omega)
    rw [show fr 0 1 = 0 from by rw [fr_int]; rfl] at h
    rw [h]
    omega
  have hw := fun q (h : q ∈ f) => hf.wl h
  cases f with
  | nil => have := hf.1; simp at this
  | cons a t =>
    unfold AA
    rw [rdG, List.map_cons, List.map_cons]
    by_cases h0 : rn = 0
    · rw [if_pos (e0.2 h0)]
      subst h0
      rw [rfG_zero]
      rfl
    · rw [if_neg (fun h => h0 (e0.1 h)), red, rfG_scT h0 hw]
/-- A piece times the number. -/
def muR (rn rd : Int) (p : RP) : RP := toRP (mulH (fr rn rd) (toAP p))
theorem rscale_is {f : List RP} (hf : VR f) (rn rd : Int) (hq : Q.Val rn rd) : scaleR f rn rd = if ((rdG (scT rn) f).map (muR rn rd)).all wl then ((rdG (scT rn) f).map (muR rn rd), 0) else ([], 3) := by
  have e : (rdG (scT rn) f).map (muR rn rd) = (scaleL (AA f) (fr rn rd)).map toRP := by
    unfold scaleL
    rw [← rdG_scT hf rn rd hq, List.map_map, List.map_map]
    rfl
  have hl : ((scaleL (AA f) (fr rn rd))).length ≤ 64 := by
    have h1 := congrArg List.length e
    rw [List.length_map, List.length_map] at h1
    have := rdG_len (scT rn) f
    have := hf.2.1
    omega
  rw [e]
  have ea : ((scaleL (AA f) (fr rn rd)).map toRP).all wl = (scaleL (AA f) (fr rn rd)).all Lim := by
    rw [List.all_map]
    congr 1
    funext a
    exact wl_toRP a
  rw [ea]
  unfold scaleR scaleA chk
  by_cases ha : (scaleL (AA f) (fr rn rd)).all Lim = true
  · rw [if_pos ha, if_pos hl, if_pos ha]
  · rw [if_neg ha, if_neg ha]; rfl
theorem OwnP.other {W W' : World} {base b : Nat} {v : Value} {L : List RP} {cs : Array Value} {T : TypeId} {m : Nat × Nat} (h : OwnP W base v L) (hb : W.heap[b]? = some (.cells cs T m)) (hT : T ≠ 51) (hk : ∀ k, k ≠ b → W'.heap[k]? = W.heap[k]?) : OwnP W' base v L := by
  obtain ⟨h0, ⟨rfl, h1⟩ | ⟨g, cap, cur, rfl, hg, hgb, h2⟩⟩ := h
  · exact ⟨h0, .inl ⟨rfl, h1⟩⟩
  · refine ⟨h0, .inr ⟨g, cap, cur, rfl, hg, ?_, h2⟩⟩
    rw [hk g fun e => ?_]
    · exact hgb
    · subst e
      rw [hb] at hgb
      injection hgb with h3
      injection h3 with _ h4
      exact hT h4
theorem put2_other (W : World) {b k : Nat} (n d : Int) (h : k ≠ b) : ((W.setCell ⟨b, 0, none⟩ (.int .i64 n)).setCell ⟨b, 1, none⟩ (.int .i64 d)).heap[k]? = W.heap[k]? := by
  rw [heap_setCell_other _ _ _ _ h, heap_setCell_other _ _ _ _ h]
theorem rfG_sub {R : RP → RP → Bool} : ∀ {a : RP} {l : List RP} {q : RP}, q ∈ rfG R a l → q ∈ l
  | _, [], _, h => h
  | a, b :: t, q, h => by
    rw [rfG] at h
    split at h
    · exact List.mem_cons_of_mem _ (rfG_sub h)
    · rcases List.mem_cons.1 h with rfl | h
      · exact List.mem_cons_self
      · exact List.mem_cons_of_mem _ (rfG_sub h)
theorem rdG_sub {R : RP → RP → Bool} {l : List RP} {q : RP} (h : q ∈ rdG R l) : q ∈ l := by
  cases l with
  | nil => exact h
  | cons a t =>
    rcases List.mem_cons.1 h with rfl | h
    · exact List.mem_cons_self
    · exact List.mem_cons_of_mem _ (rfG_sub h)
theorem muR_in {rn rd : Int} {p : RP} (h : wl (muR rn rd p) = true) (hf : 0 ≤ p.f ∧ p.f ≤ 100000) : (muR rn rd p).In := by
  obtain ⟨a1, a2, a3, a4, a5, a6⟩ := wl_val h
  have b1 := a1.1
  have b2 := a1.2.1
  have b3 := a1.2.2.1
  have c3 := a3.2.2.1
  refine ⟨?_, ?_, ?_, ?_, ?_⟩ <;> unfold In64
  · have : (muR rn rd p).f = p.f := rfl
    omega
  · omega
  · omega
  · omega
  · omega
/-- A piece of the product that is out of the limits decides the result. -/
theorem scale_no {f : List RP} {k : Nat} {rn rd : Int} {Z : RP} {L : List RP} (h : (rdG (scT rn) (f.take (k + 1))).map (muR rn rd) = L ++ [Z]) (hz : wl Z = false) : ¬ ((rdG (scT rn) f).map (muR rn rd)).all wl = true := fun ha => by
  have hp : (rdG (scT rn) (f.take (k + 1))).map (muR rn rd) <+: (rdG (scT rn) f).map (muR rn rd) := rdG_pre.map _
  have hm : Z ∈ (rdG (scT rn) f).map (muR rn rd) := hp.subset (by rw [h]; simp)
  have := List.all_eq_true.1 ha Z hm
  rw [hz] at this
  cases this
theorem NmB.put {W : World} {b : Nat} {n d : Int} (h : NmB W b n d) (n' d' : Int) : NmB ((W.setCell ⟨b, 0, none⟩ (.int .i64 n')).setCell ⟨b, 1, none⟩ (.int .i64 d')) b n' d' := by
  unfold NmB at *
  exact heap_setCell_same _ _ _ _ _ _ (heap_setCell_same _ _ _ _ _ _ h)
theorem NmB.fz {W : World} {b : Nat} {n d : Int} (h : NmB W b n d) : W.frozen? ⟨b, 0, none⟩ = false ∧ W.frozen? ⟨b, 1, none⟩ = false := by
  unfold NmB at h
  refine ⟨?_, ?_⟩ <;> simp [World.frozen?, h]

set_option maxRecDepth 100000 in
set_option maxHeartbeats 1000000 in
theorem rscale_bad (f : List RP) (pf : Option Addr) (bf of cf lf : Nat) (rn rd : Int) (w : World) (hS : SlP w pf bf of lf f) (b1 b2 : Bool) (hv : vR f = b1) (hr : vld rn rd = b2) (hx : b1 = false ∨ b1 = true ∧ b2 = false) (i1 : In64 rn) (i2 : In64 rd) :
    Calls Try.prog 20 #[.slice pf lf cf, .agg #[.int .i64 rn, .int .i64 rd]] w fun e w' => OutP (RowKit.Below w.heap.size w) [] 1 e w' := by
  have K := Lib.hid (fun w' (h : RowKit.Below w.heap.size w w') => rvalid_b f b1 hv pf bf of cf lf w' (hS.below h))
  have KV := Lib.hid (fun w' => rvalid_any rn rd w' i1.1 i1.2 i2.1 i2.2)
  rw [hr] at KV
  clear hS hv hr i1 i2
  rcases hx with rfl | ⟨rfl, rfl⟩
  all_goals
    go_enter Try.func20, Try.ntmps20
    go_wp2_with fail
    refine (K.out _ ((Below.refl _ w).alloc (Nat.le_refl _) _)).mono ?_
    rintro _ w1 ⟨rfl, hb⟩
    have HB := Lib.hid (((Below.refl _ w).alloc (Nat.le_refl _) (.cells #[.int .i64 rn, .int .i64 rd] 24)).trans (hb.mono (by simp)))
    obtain ⟨c0, c1, f0, f1⟩ := (At2.new w (.int .i64 rn) (.int .i64 rd) 24).below hb (by simp)
    clear hb
    go_wp2_with fail
    refine (KV.out _).mono ?_
    rintro _ w2 ⟨rfl, hb⟩
    have HB2 := Lib.hid (HB.out.trans (hb.mono HB.out.size))
    clear hb c0 c1 f0 f1
    go_wp2
    go_ret2
    exact OutP.bad HB2.out

set_option maxRecDepth 100000 in
set_option maxHeartbeats 8000000 in
theorem rscale_yes (f : List RP) (pf : Option Addr) (bf of cf lf : Nat) (rn rd : Int) (w : World) (hS : SlP w pf bf of lf f) (hv : VR f) (hr : Q.Val rn rd) :
    Calls Try.prog 20 #[.slice pf lf cf, .agg #[.int .i64 rn, .int .i64 rd]] w fun e w' => OutP (RowKit.Below w.heap.size w) (scaleR f rn rd).1 (scaleR f rn rd).2 e w' := by
  have K := Lib.hid (fun w' (h : RowKit.Below w.heap.size w w') => rvalid_b f true (vR_iff.2 hv) pf bf of cf lf w' (hS.below h))
  have KV := Lib.hid (fun w' => rvalid_any rn rd w' (by have := hr.1; omega) (by have := hr.2.1; omega) (by have := hr.2.2.1; omega) (by have := hr.2.2.2.1; omega))
  rw [(vld_iff rn rd).2 hr] at KV
  have HFS := Lib.hid hS
  have HL := Lib.hid hS.ln
  have HVf := Lib.hid hv
  have HQ := Lib.hid hr
  have hp := hS.ptr (by have := hS.ln; have := hv.1; omega)
  have hbf := hS.lt (by have := hS.ln; have := hv.1; omega)
  have hl64 : lf ≤ 64 := by have := hS.ln; have := hv.2.1; omega
  subst hp
  obtain ⟨RS, hRS⟩ : ∃ RS, RS = scaleR f rn rd := ⟨_, rfl⟩
  rw [← hRS]
  rw [rscale_is hv rn rd hr] at hRS
  have HRS := Lib.hid hRS
  clear hS hv hr hRS
  go_enter Try.func20, Try.ntmps20
  go_wp2_with fail
  refine (K.out _ ((Below.refl _ w).alloc (Nat.le_refl _) _)).mono ?_
  rintro _ w1 ⟨rfl, hb⟩
  have HB := Lib.hid (((Below.refl _ w).alloc (Nat.le_refl _) (.cells #[.int .i64 rn, .int .i64 rd] 24)).trans (hb.mono (by simp)))
  have HT : Hid (RtB w1 w.heap.size rn rd) := by
    show _ = _
    exact (hb.block _ (by simp)).trans (World.alloc_heap_new w _)
  have hz1 : w.heap.size < w1.heap.size := by have := hb.size; simp at this; omega
  clear hb
  obtain ⟨c0, c1⟩ := HT.out.all
  go_wp2_with fail
  refine (KV.out _).mono ?_
  rintro _ w2 ⟨rfl, hb⟩
  have HB2 := Lib.hid (HB.out.trans (hb.mono HB.out.size))
  have HT2 := Lib.hid (HT.out.below hz1 hb)
  have hz2 : w.heap.size < w2.heap.size := Nat.lt_of_lt_of_le hz1 hb.size
  clear hb c0 c1 HT HB K KV
  go_wp2_with fail
  go_loopg [8, 9] lf (fun q s8 s9 wr => ∃ k : Nat, s9 = .int .i64 k ∧ k ≤ lf ∧ lf - k ≤ q ∧ Hid (RowKit.Below w2.heap.size w2 wr) ∧ Hid (OwnP wr w2.heap.size s8 ((rdG (scT rn) (f.take k)).map (muR rn rd))) ∧ Hid (((rdG (scT rn) (f.take k)).map (muR rn rd)).all wl = true))
  case atStart => exact ⟨0, rfl, by omega, by omega, Below.refl _ _, OwnP.empty _ _, rfl⟩
  case round =>
    obtain ⟨k, rfl, hk, hkq, HBr, HO, HA⟩ := hrel
    by_cases hlt : k < lf
    · have hltz : (k : Int) < (lf : Int) := by omega
      have hkl : k < f.length := by rw [HL.out]; exact hlt
      have HTL := Lib.hid (show ((rdG (scT rn) (f.take k)).map (muR rn rd)).length ≤ 64 from by have := rdG_len (scT rn) (f.take k); rw [List.length_take] at this; rw [List.length_map]; omega)
      have wX := HVf.out.wl (List.getElem_mem hkl)
      obtain ⟨X, hX⟩ : ∃ X, X = f[k] := ⟨_, rfl⟩
      rw [← hX] at wX
      have HX := Lib.hid hX
      have HWX := Lib.hid wX
      clear hX
      obtain ⟨a1, a2, a3, a4, a5, a6⟩ := wl_val wX.1
      have q1 := HQ.out
      have m1 := mul_bd (a := X.vn) (b := rn) (A := 1000000000) (B := 1000000000) (by have := a1.1; have := a1.2.1; omega) (by have := q1.1; have := q1.2.1; omega)
      have m2 := mul_bd (a := X.vd) (b := rd) (A := 100) (B := 1000000000) (by have := a1.2.2.1; omega) (by have := q1.2.2.1; have := q1.2.2.2.1; omega)
      have m3 := mul_bd (a := X.sn) (b := rn) (A := 100000) (B := 1000000000) (by omega) (by have := q1.1; have := q1.2.1; omega)
      have m4 := mul_bd (a := X.sd) (b := rd) (A := 100) (B := 1000000000) (by have := a3.2.2.1; omega) (by have := q1.2.2.1; have := q1.2.2.2.1; omega)
      have hvd : 0 < X.vd := by have := a1.2.2.1; omega
      have hsd : 0 < X.sd := by have := a3.2.2.1; omega
      have hrd : 0 < rd := by have := q1.2.2.1; omega
      have m5 : 0 < X.vd * rd := Int.mul_pos hvd hrd
      have m6 : 0 < X.sd * rd := Int.mul_pos hsd hrd
      obtain ⟨u1, hu1⟩ : ∃ u, u = X.vn * rn := ⟨_, rfl⟩
      obtain ⟨u2, hu2⟩ : ∃ u, u = X.vd * rd := ⟨_, rfl⟩
      obtain ⟨u3, hu3⟩ : ∃ u, u = X.sn * rn := ⟨_, rfl⟩
      obtain ⟨u4, hu4⟩ : ∃ u, u = X.sd * rd := ⟨_, rfl⟩
      have e1 : IntKind.i64.wrap (X.vn * rn) = u1 := by rw [hu1]; exact w64_id (x := X.vn * rn) (by omega)
      have e2 : IntKind.i64.wrap (X.vd * rd) = u2 := by rw [hu2]; exact w64_id (x := X.vd * rd) (by omega)
      have e3 : IntKind.i64.wrap (X.sn * rn) = u3 := by rw [hu3]; exact w64_id (x := X.sn * rn) (by omega)
      have e4 : IntKind.i64.wrap (X.sd * rd) = u4 := by rw [hu4]; exact w64_id (x := X.sd * rd) (by omega)
      obtain ⟨Z, hZ⟩ : ∃ Z, Z = muR rn rd X := ⟨_, rfl⟩
      have KR1 := fun w => rreduce_any u1 u2 w (by omega) (by omega) (by omega) (by omega)
      have KR2 := fun w => rreduce_any u3 u4 w (by omega) (by omega) (by omega) (by omega)
      obtain ⟨g1, g2⟩ := rND (n := u1) (d := u2) (by omega) (by omega)
      obtain ⟨g3, g4⟩ := rND (n := u3) (d := u4) (by omega) (by omega)
      have z0 : Z.f = X.f := by rw [hZ]; rfl
      have z1 : Z.vn = (fr u1 u2).num := by rw [hZ, hu1, hu2, ← fr_mul hvd hrd]; rfl
      have z2 : Z.vd = (fr u1 u2).den := by rw [hZ, hu1, hu2, ← fr_mul hvd hrd]; rfl
      have z3 : Z.sn = (fr u3 u4).num := by rw [hZ, hu3, hu4, ← fr_mul hsd hrd]; rfl
      have z4 : Z.sd = (fr u3 u4).den := by rw [hZ, hu3, hu4, ← fr_mul hsd hrd]; rfl
      rw [g1, g2, ← z1, ← z2] at KR1
      rw [g3, g4, ← z3, ← z4] at KR2
      have hZin : Z.In := by
        have d1 := fr_bd (n := u1) (d := u2) (by omega)
        have d2 := fr_bd (n := u3) (d := u4) (by omega)
        have d3 := den_pos (fr u1 u2)
        have d4 := den_pos (fr u3 u4)
        refine ⟨?_, ?_, ?_, ?_, ?_⟩ <;> unfold In64
        · rw [z0]; omega
        · rw [z1]; omega
        · rw [z2]; omega
        · rw [z3]; omega
        · rw [z4]; omega
      replace KR1 := Lib.hid KR1
      replace KR2 := Lib.hid KR2
      have HZ := Lib.hid hZ
      have HZ0 := Lib.hid z0
      obtain ⟨c, hc⟩ : ∃ c, c = wl Z := ⟨_, rfl⟩
      have hV : vR [⟨0, Z.vn, Z.vd, Z.sn, Z.sd⟩] = c := by rw [hc]; exact vR_one Z.vn Z.vd Z.sn Z.sd Z.f
      have hV2 : ∀ s, s ∈ [(⟨0, Z.vn, Z.vd, Z.sn, Z.sd⟩ : RP)] → s.In := fun s hs => by
        rw [List.mem_singleton.1 hs]
        exact ⟨by unfold In64; simp only; omega, hZin.2⟩
      have HV := Lib.hid (And.intro hV hV2)
      have HCC := Lib.hid hc
      clear wX a1 a2 a3 a4 a5 a6 q1 m1 m2 m3 m4 m5 m6 hvd hsd hrd hu1 hu2 hu3 hu4 g1 g2 g3 g4 z0 z1 z2 z3 z4 hZ hc hV hV2 hZin
      by_cases hk0 : 0 < k
      · have hk0z : (0 : Int) < (k : Int) := by omega
        have hk1 : k - 1 < f.length := by omega
        have wY := HVf.out.wl (List.getElem_mem hk1)
        have hT := rdG_take (R := scT rn) hk0 hkl
        obtain ⟨Y, hY⟩ : ∃ Y, Y = f[k - 1] := ⟨_, rfl⟩
        rw [← hY, ← HX.out] at hT
        rw [← hY] at wY
        have K := Lib.hid (fun w => rcont_w Y X w (liok_wl (x := Y.f) wY.1 (by omega)).is.2.2)
        obtain ⟨d, hd⟩ : ∃ d, d = cW Y X := ⟨_, rfl⟩
        rw [show scT rn Y X = (decide (rn = 0) || d) by rw [hd]; rfl] at hT
        rw [← hd] at K
        unfold RP.V at K
        have hbr := Nat.lt_of_lt_of_le (Nat.lt_trans hbf hz2) HBr.out.size
        have hbw := Nat.lt_of_lt_of_le hz2 HBr.out.size
        obtain ⟨x0, x1, x2, x3, x4⟩ := (HFS.out.below (HB2.out.trans (HBr.out.mono (Nat.le_of_lt hz2)))).cells k hkl
        obtain ⟨y0, y1, y2, y3, y4⟩ := (HFS.out.below (HB2.out.trans (HBr.out.mono (Nat.le_of_lt hz2)))).cells (k - 1) hk1
        rw [← HX.out] at x0 x1 x2 x3 x4
        rw [← hY] at y0 y1 y2 y3 y4
        obtain ⟨r0, r1⟩ := (HT2.out.below hz2 HBr.out).all
        replace x0 := cell_bw (by show bf < _; exact hbr) x0
        replace x1 := cell_bw (by show bf < _; exact hbr) x1
        replace x2 := cell_bw (by show bf < _; exact hbr) x2
        replace x3 := cell_bw (by show bf < _; exact hbr) x3
        replace x4 := cell_bw (by show bf < _; exact hbr) x4
        replace y0 := cell_bw (by show bf < _; exact hbr) y0
        replace y1 := cell_bw (by show bf < _; exact hbr) y1
        replace y2 := cell_bw (by show bf < _; exact hbr) y2
        replace y3 := cell_bw (by show bf < _; exact hbr) y3
        replace y4 := cell_bw (by show bf < _; exact hbr) y4
        replace r0 := cell_bw (by show w.heap.size < _; exact hbw) r0
        replace r1 := cell_bw (by show w.heap.size < _; exact hbw) r1
        clear hY hd wY
        by_cases hr0 : rn = 0
        · have hrb : (rn == 0) = true := by simpa using hr0
          rw [decide_eq_true hr0, Bool.true_or, if_pos rfl] at hT
          have HTk := Lib.hid hT
          clear hT hr0
          go_wp2_with fail
          refine wp_region_bw mixed (by kernel_rfl) ?_
          repeat (go_big_quiet_step ((with_reducible refine Calls.bw_of (K.out _))))
          refine wpQuiet_nil ?_
          intro W HW
          replace HW := bw_out HW
          have HO2 := Lib.hid (HO.out.below HW)
          have HB3 := Lib.hid (HBr.out.trans (HW.mono HBr.out.size))
          clear HW
          go_wp2_with fail
          go_roundg (lf - (k + 1))
          case measure => omega
          case rel => exact ⟨k + 1, by go_num, by omega, by omega, HB3.out, by show OwnP _ _ _ _; rw [HTk.out]; exact HO2.out, by show _ = _; rw [HTk.out]; exact HA.out⟩
        · have hrb : (rn == 0) = false := by simpa using hr0
          rw [decide_eq_false hr0, Bool.false_or] at hT
          cases d with
          | true =>
            rw [if_pos rfl] at hT
            have HTk := Lib.hid hT
            clear hT hr0
            go_wp2_with fail
            refine wp_region_bw mixed (by kernel_rfl) ?_
            repeat (go_big_quiet_step ((with_reducible refine Calls.bw_of (K.out _))))
            refine wpQuiet_nil ?_
            intro W HW
            replace HW := bw_out HW
            have HO2 := Lib.hid (HO.out.below HW)
            have HB3 := Lib.hid (HBr.out.trans (HW.mono HBr.out.size))
            clear HW
            go_wp2_with fail
            go_roundg (lf - (k + 1))
            case measure => omega
            case rel => exact ⟨k + 1, by go_num, by omega, by omega, HB3.out, by show OwnP _ _ _ _; rw [HTk.out]; exact HO2.out, by show _ = _; rw [HTk.out]; exact HA.out⟩
          | false =>
            rw [if_neg (by simp)] at hT
            have hT2 : (rdG (scT rn) (f.take (k + 1))).map (muR rn rd) = (rdG (scT rn) (f.take k)).map (muR rn rd) ++ [Z] := by
              rw [hT, List.map_append, HZ.out]
              rfl
            have HTk := Lib.hid hT2
            clear hT hT2 hr0
            go_wp2_with fail
            refine wp_region_bw mixed (by kernel_rfl) ?_
            repeat (go_big_quiet_step ((with_reducible refine Calls.bw_of (K.out _))))
            refine wpQuiet_nil ?_
            intro W HW
            replace HW := bw_out HW
            have HO2 := Lib.hid (HO.out.below HW)
            have HB3 := Lib.hid (HBr.out.trans (HW.mono HBr.out.size))
            clear HW x0 x1 x2 x3 x4 y0 y1 y2 y3 y4 r0 r1 K
            have hSV : ∀ V, RowKit.Below w2.heap.size w2 V → (V.cell? ⟨bf, of + k * 5, none⟩ = some (.int .i64 X.f) ∧ V.cell? ⟨bf, of + k * 5 + 1, none⟩ = some (.int .i64 X.vn) ∧ V.cell? ⟨bf, of + k * 5 + 2, none⟩ = some (.int .i64 X.vd) ∧ V.cell? ⟨bf, of + k * 5 + 3, none⟩ = some (.int .i64 X.sn) ∧ V.cell? ⟨bf, of + k * 5 + 4, none⟩ = some (.int .i64 X.sd)) ∧ V.cell? ⟨w.heap.size, 0, none⟩ = some (.int .i64 rn) ∧ V.cell? ⟨w.heap.size, 1, none⟩ = some (.int .i64 rd) := fun V h => ⟨by
              have := (HFS.out.below (HB2.out.trans (h.mono (Nat.le_of_lt hz2)))).cells k hkl
              rw [← HX.out] at this
              exact this, (HT2.out.below hz2 h).all⟩
            go_wp2_with fail
            refine wp_region_dr mixed ?_
            have hd : RowKit.Below W.heap.size W W.drew := (Below.refl _ W).drew
            have hB0p := HB3.out.trans (hd.mono HB3.out.size)
            have hO0p := HO2.out.below hd
            have hrowp := hO0p.lt
            have hzp := hB0p.size
            generalize W.drew = V0p at *
            clear hd
            refine wpAny_of_held (S := (fun w' => (w'.cell? ⟨bf, of + k * 5, none⟩ = some (.int .i64 X.f) ∧ w'.cell? ⟨bf, of + k * 5 + 1, none⟩ = some (.int .i64 X.vn) ∧ w'.cell? ⟨bf, of + k * 5 + 2, none⟩ = some (.int .i64 X.vd) ∧ w'.cell? ⟨bf, of + k * 5 + 3, none⟩ = some (.int .i64 X.sn) ∧ w'.cell? ⟨bf, of + k * 5 + 4, none⟩ = some (.int .i64 X.sd)) ∧ w'.cell? ⟨w.heap.size, 0, none⟩ = some (.int .i64 rn) ∧ w'.cell? ⟨w.heap.size, 1, none⟩ = some (.int .i64 rd))) _ _ _ _ ?_
            have hS0p := hSV _ hB0p
            refine tk0 (v := ?_) (by kernel_rfl) (by kernel_rfl) (by kernel_rfl) (fun _ _ _ h => h) (Or.inl ⟨by rfl, ?_⟩) hS0p ?_
            rotate_left
            · (intro w hSw; (try dsimp only at hSw); go_simp; try with_reducible rfl)
            simp only [Act.put, List.setIfInBounds_toArray, List.set_cons_zero, List.set_cons_succ]
            refine tk1 (v := ?_) (by kernel_rfl) (by kernel_rfl) (by kernel_rfl) (fun _ _ _ h => h) (Or.inl ⟨by rfl, ?_⟩) hS0p ?_
            rotate_left
            · (intro w hSw; (try dsimp only at hSw); go_simp; try with_reducible rfl)
            simp only [Act.put, List.setIfInBounds_toArray, List.set_cons_zero, List.set_cons_succ]
            refine tk2 (v := ?_) (by kernel_rfl) (by kernel_rfl) (by kernel_rfl) (fun _ _ _ h => h) (Or.inl ⟨by rfl, ?_⟩) hS0p ?_
            rotate_left
            · (intro w hSw; (try dsimp only at hSw); go_simp; try with_reducible rfl)
            simp only [Act.put, List.setIfInBounds_toArray, List.set_cons_zero, List.set_cons_succ]
            refine tk3 (v := ?_) (by kernel_rfl) (by kernel_rfl) (by kernel_rfl) (fun _ _ _ h => h) (Or.inl ⟨by rfl, ?_⟩) hS0p ?_
            rotate_left
            · (intro w hSw; (try dsimp only at hSw); go_simp; try with_reducible rfl)
            simp only [Act.put, List.setIfInBounds_toArray, List.set_cons_zero, List.set_cons_succ]
            refine tk4 (v := ?_) (by kernel_rfl) (by kernel_rfl) (by kernel_rfl) (fun _ _ _ h => h) (Or.inl ⟨by rfl, ?_⟩) hS0p ?_
            rotate_left
            · (intro w hSw; (try dsimp only at hSw); go_simp; try with_reducible rfl)
            simp only [Act.put, List.setIfInBounds_toArray, List.set_cons_zero, List.set_cons_succ]
            refine tk5 (v := ?_) (by kernel_rfl) (by kernel_rfl) (by kernel_rfl) (fun _ _ _ h => h) (Or.inl ⟨by rfl, ?_⟩) hS0p ?_
            rotate_left
            · (intro w hSw; (try dsimp only at hSw); go_simp; try with_reducible rfl)
            simp only [Act.put, List.setIfInBounds_toArray, List.set_cons_zero, List.set_cons_succ]
            refine tk6 (v := ?_) (by kernel_rfl) (by kernel_rfl) (by kernel_rfl) (fun _ _ _ h => h) (Or.inl ⟨by rfl, ?_⟩) hS0p ?_
            rotate_left
            · (intro w hSw; (try dsimp only at hSw); go_simp; try with_reducible rfl)
            simp only [Act.put, List.setIfInBounds_toArray, List.set_cons_zero, List.set_cons_succ]
            refine tk7 (v := ?_) (by kernel_rfl) (by kernel_rfl) (by kernel_rfl) (fun _ _ _ h => h) (Or.inl ⟨by rfl, ?_⟩) hS0p ?_
            rotate_left
            · (intro w hSw; (try dsimp only at hSw); go_simp; try with_reducible rfl)
            simp only [Act.put, List.setIfInBounds_toArray, List.set_cons_zero, List.set_cons_succ]
            refine tk8 (v := ?_) (by kernel_rfl) (by kernel_rfl) (by kernel_rfl) (fun _ _ _ h => h) (Or.inl ⟨by rfl, ?_⟩) hS0p ?_
            rotate_left
            · (intro w hSw; (try dsimp only at hSw); go_simp; try with_reducible rfl)
            simp only [Act.put, List.setIfInBounds_toArray, List.set_cons_zero, List.set_cons_succ]
            refine tk9 (v := ?_) (by kernel_rfl) (by kernel_rfl) (by kernel_rfl) (fun _ _ _ h => h) (Or.inl ⟨by rfl, ?_⟩) hS0p ?_
            rotate_left
            · (intro w hSw; (try dsimp only at hSw); go_simp; try with_reducible rfl)
            simp only [Act.put, List.setIfInBounds_toArray, List.set_cons_zero, List.set_cons_succ]
            refine tk10 (v := ?_) (by kernel_rfl) (by kernel_rfl) (by kernel_rfl) (fun _ _ _ h => h) (Or.inl ⟨by rfl, ?_⟩) hS0p ?_
            rotate_left
            · (intro w hSw; (try dsimp only at hSw); go_simp; try with_reducible rfl)
            simp only [Act.put, List.setIfInBounds_toArray, List.set_cons_zero, List.set_cons_succ]
            refine tk11 (v := ?_) (by kernel_rfl) (by kernel_rfl) (by kernel_rfl) (fun _ _ _ h => h) (Or.inl ⟨by rfl, ?_⟩) hS0p ?_
            rotate_left
            · (intro w hSw; (try dsimp only at hSw); go_simp; try with_reducible rfl)
            simp only [Act.put, List.setIfInBounds_toArray, List.set_cons_zero, List.set_cons_succ]
            refine tk12 (v := ?_) (by kernel_rfl) (by kernel_rfl) (by kernel_rfl) (fun _ _ _ h => h) (Or.inl ⟨by rfl, ?_⟩) hS0p ?_
            rotate_left
            · (intro w hSw; (try dsimp only at hSw); go_simp; try with_reducible rfl)
            simp only [Act.put, List.setIfInBounds_toArray, List.set_cons_zero, List.set_cons_succ]
            refine tk13 (v := ?_) (by kernel_rfl) (by kernel_rfl) (by kernel_rfl) (fun _ _ _ h => h) (Or.inl ⟨by rfl, ?_⟩) hS0p ?_
            rotate_left
            · (intro w hSw; (try dsimp only at hSw); go_simp; try with_reducible rfl)
            simp only [Act.put, List.setIfInBounds_toArray, List.set_cons_zero, List.set_cons_succ]
            refine tk14 (v := ?_) (by kernel_rfl) (by kernel_rfl) (by kernel_rfl) (fun _ _ _ h => h) (Or.inl ⟨by rfl, ?_⟩) hS0p ?_
            rotate_left
            · (intro w hSw; (try dsimp only at hSw); go_simp; try with_reducible rfl)
            simp only [Act.put, List.setIfInBounds_toArray, List.set_cons_zero, List.set_cons_succ]
            refine tk15 (v := ?_) (by kernel_rfl) (by kernel_rfl) (by kernel_rfl) (fun _ _ _ h => h) (Or.inl ⟨by rfl, ?_⟩) hS0p ?_
            rotate_left
            · (intro w hSw; (try dsimp only at hSw); go_simp; try with_reducible rfl)
            simp only [Act.put, List.setIfInBounds_toArray, List.set_cons_zero, List.set_cons_succ]
            refine tk16 (v := ?_) (by kernel_rfl) (by kernel_rfl) (by kernel_rfl) (fun _ _ _ h => h) (Or.inl ⟨by rfl, ?_⟩) hS0p ?_
            rotate_left
            · (intro w hSw; (try dsimp only at hSw); go_simp; try with_reducible rfl)
            simp only [Act.put, List.setIfInBounds_toArray, List.set_cons_zero, List.set_cons_succ]
            refine tk17 (v := ?_) (by kernel_rfl) (by kernel_rfl) (by kernel_rfl) (fun _ _ _ h => h) (Or.inl ⟨by rfl, ?_⟩) hS0p ?_
            rotate_left
            · (intro w hSw; (try dsimp only at hSw); go_simp; try with_reducible rfl)
            simp only [Act.put, List.setIfInBounds_toArray, List.set_cons_zero, List.set_cons_succ]
            refine wpAnyH_ready (rs := [18, 19]) (by kernel_rfl) (by simp) (st18 (fun K hK => ?_) (st19 (fun K hK => ?_) AllReadyH.nil))
            · skip
              go_simp
              refine (KR1.out _).mono ?_
              rintro _ V1p ⟨rfl, hb⟩
              go_wp2_with fail
              have hB1p := hB0p.trans (hb.mono hB0p.size)
              have hO1p := hO0p.below hb
              have hrow1p := hO1p.lt
              clear hb
              refine hK.out _ _ ?_ (fun hHeld => ?_)
              · exact hSV _ hB1p
              clear hK K
              try simp only [Act.put, List.setIfInBounds_toArray, List.set_cons_zero, List.set_cons_succ]
              refine wpAnyH_ready (rs := [19]) (by kernel_rfl) (by simp) (st19 (fun K hK => ?_) AllReadyH.nil)
              go_simp
              have hal := (Below.refl _ V1p).alloc (Nat.le_refl _) (.cells #[.int .i64 0, .int .i64 0] 24)
              refine hK.out _ _ ?_ (fun hHeld => ?_)
              · exact hSV _ (hB1p.trans (hal.mono hB1p.size))
              clear hK K
              try simp only [Act.put, List.setIfInBounds_toArray, List.set_cons_zero, List.set_cons_succ]
              clear hal
              refine wpAnyH_ready (rs := [20]) (by kernel_rfl) (by simp) (st20 (fun K hK => ?_) AllReadyH.nil)
              go_simp
              have ha := (Below.refl _ V1p).alloc (Nat.le_refl _) (.cells #[.int .i64 Z.vn, .int .i64 Z.vd] 24)
              refine hK.out _ _ ?_ (fun hHeld => ?_)
              · exact hSV _ (hB1p.trans (ha.mono hB1p.size))
              clear hK K
              try simp only [Act.put, List.setIfInBounds_toArray, List.set_cons_zero, List.set_cons_succ]
              refine wpAnyH_done (by kernel_rfl) ?_ _
              have np := NmB.new V1p (Z.vn) (Z.vd)
              have hB2p := hB1p.trans (ha.mono hB1p.size)
              have hO2p := hO1p.below ha
              have hz1p := hB1p.size
              obtain ⟨Cp, hCp⟩ : ∃ C, C = V1p.alloc (.cells #[.int .i64 Z.vn, .int .i64 Z.vd] 24) := ⟨_, rfl⟩
              rw [← hCp] at np hB2p hO2p  ⊢
              clear hCp ha
              go_wp2_with fail
              refine wp_region_dr mixed ?_
              have hd : RowKit.Below Cp.heap.size Cp Cp.drew := (Below.refl _ Cp).drew
              have hB0q := hB2p.trans (hd.mono hB2p.size)
              have hO0q := hO2p.below hd
              have np0q := np.below hd
              have hrowq := hO0q.lt
              have hzq := hB0q.size
              have lnpq := (Array.getElem?_eq_some_iff.1 np0q).1
              generalize Cp.drew = V0q at *
              clear hd
              refine wpAny_of_held (S := (fun w' => (w'.cell? ⟨bf, of + k * 5, none⟩ = some (.int .i64 X.f) ∧ w'.cell? ⟨bf, of + k * 5 + 1, none⟩ = some (.int .i64 X.vn) ∧ w'.cell? ⟨bf, of + k * 5 + 2, none⟩ = some (.int .i64 X.vd) ∧ w'.cell? ⟨bf, of + k * 5 + 3, none⟩ = some (.int .i64 X.sn) ∧ w'.cell? ⟨bf, of + k * 5 + 4, none⟩ = some (.int .i64 X.sd)) ∧ w'.cell? ⟨w.heap.size, 0, none⟩ = some (.int .i64 rn) ∧ w'.cell? ⟨w.heap.size, 1, none⟩ = some (.int .i64 rd))) _ _ _ _ ?_
              have hS0q := hSV _ hB0q
              refine tk0 (v := ?_) (by kernel_rfl) (by kernel_rfl) (by kernel_rfl) (fun _ _ _ h => h) (Or.inl ⟨by rfl, ?_⟩) hS0q ?_
              rotate_left
              · (intro w hSw; (try dsimp only at hSw); go_simp; try with_reducible rfl)
              simp only [Act.put, List.setIfInBounds_toArray, List.set_cons_zero, List.set_cons_succ]
              refine tk1 (v := ?_) (by kernel_rfl) (by kernel_rfl) (by kernel_rfl) (fun _ _ _ h => h) (Or.inl ⟨by rfl, ?_⟩) hS0q ?_
              rotate_left
              · (intro w hSw; (try dsimp only at hSw); go_simp; try with_reducible rfl)
              simp only [Act.put, List.setIfInBounds_toArray, List.set_cons_zero, List.set_cons_succ]
              refine tk2 (v := ?_) (by kernel_rfl) (by kernel_rfl) (by kernel_rfl) (fun _ _ _ h => h) (Or.inl ⟨by rfl, ?_⟩) hS0q ?_
              rotate_left
              · (intro w hSw; (try dsimp only at hSw); go_simp; try with_reducible rfl)
              simp only [Act.put, List.setIfInBounds_toArray, List.set_cons_zero, List.set_cons_succ]
              refine tk3 (v := ?_) (by kernel_rfl) (by kernel_rfl) (by kernel_rfl) (fun _ _ _ h => h) (Or.inl ⟨by rfl, ?_⟩) hS0q ?_
              rotate_left
              · (intro w hSw; (try dsimp only at hSw); go_simp; try with_reducible rfl)
              simp only [Act.put, List.setIfInBounds_toArray, List.set_cons_zero, List.set_cons_succ]
              refine tk4 (v := ?_) (by kernel_rfl) (by kernel_rfl) (by kernel_rfl) (fun _ _ _ h => h) (Or.inl ⟨by rfl, ?_⟩) hS0q ?_
              rotate_left
              · (intro w hSw; (try dsimp only at hSw); go_simp; try with_reducible rfl)
              simp only [Act.put, List.setIfInBounds_toArray, List.set_cons_zero, List.set_cons_succ]
              refine tk5 (v := ?_) (by kernel_rfl) (by kernel_rfl) (by kernel_rfl) (fun _ _ _ h => h) (Or.inl ⟨by rfl, ?_⟩) hS0q ?_
              rotate_left
              · (intro w hSw; (try dsimp only at hSw); go_simp; try with_reducible rfl)
              simp only [Act.put, List.setIfInBounds_toArray, List.set_cons_zero, List.set_cons_succ]
              refine tk6 (v := ?_) (by kernel_rfl) (by kernel_rfl) (by kernel_rfl) (fun _ _ _ h => h) (Or.inl ⟨by rfl, ?_⟩) hS0q ?_
              rotate_left
              · (intro w hSw; (try dsimp only at hSw); go_simp; try with_reducible rfl)
              simp only [Act.put, List.setIfInBounds_toArray, List.set_cons_zero, List.set_cons_succ]
              refine tk7 (v := ?_) (by kernel_rfl) (by kernel_rfl) (by kernel_rfl) (fun _ _ _ h => h) (Or.inl ⟨by rfl, ?_⟩) hS0q ?_
              rotate_left
              · (intro w hSw; (try dsimp only at hSw); go_simp; try with_reducible rfl)
              simp only [Act.put, List.setIfInBounds_toArray, List.set_cons_zero, List.set_cons_succ]
              refine tk8 (v := ?_) (by kernel_rfl) (by kernel_rfl) (by kernel_rfl) (fun _ _ _ h => h) (Or.inl ⟨by rfl, ?_⟩) hS0q ?_
              rotate_left
              · (intro w hSw; (try dsimp only at hSw); go_simp; try with_reducible rfl)
              simp only [Act.put, List.setIfInBounds_toArray, List.set_cons_zero, List.set_cons_succ]
              refine tk9 (v := ?_) (by kernel_rfl) (by kernel_rfl) (by kernel_rfl) (fun _ _ _ h => h) (Or.inl ⟨by rfl, ?_⟩) hS0q ?_
              rotate_left
              · (intro w hSw; (try dsimp only at hSw); go_simp; try with_reducible rfl)
              simp only [Act.put, List.setIfInBounds_toArray, List.set_cons_zero, List.set_cons_succ]
              refine tk10 (v := ?_) (by kernel_rfl) (by kernel_rfl) (by kernel_rfl) (fun _ _ _ h => h) (Or.inl ⟨by rfl, ?_⟩) hS0q ?_
              rotate_left
              · (intro w hSw; (try dsimp only at hSw); go_simp; try with_reducible rfl)
              simp only [Act.put, List.setIfInBounds_toArray, List.set_cons_zero, List.set_cons_succ]
              refine tk11 (v := ?_) (by kernel_rfl) (by kernel_rfl) (by kernel_rfl) (fun _ _ _ h => h) (Or.inl ⟨by rfl, ?_⟩) hS0q ?_
              rotate_left
              · (intro w hSw; (try dsimp only at hSw); go_simp; try with_reducible rfl)
              simp only [Act.put, List.setIfInBounds_toArray, List.set_cons_zero, List.set_cons_succ]
              refine tk12 (v := ?_) (by kernel_rfl) (by kernel_rfl) (by kernel_rfl) (fun _ _ _ h => h) (Or.inl ⟨by rfl, ?_⟩) hS0q ?_
              rotate_left
              · (intro w hSw; (try dsimp only at hSw); go_simp; try with_reducible rfl)
              simp only [Act.put, List.setIfInBounds_toArray, List.set_cons_zero, List.set_cons_succ]
              refine tk13 (v := ?_) (by kernel_rfl) (by kernel_rfl) (by kernel_rfl) (fun _ _ _ h => h) (Or.inl ⟨by rfl, ?_⟩) hS0q ?_
              rotate_left
              · (intro w hSw; (try dsimp only at hSw); go_simp; try with_reducible rfl)
              simp only [Act.put, List.setIfInBounds_toArray, List.set_cons_zero, List.set_cons_succ]
              refine tk14 (v := ?_) (by kernel_rfl) (by kernel_rfl) (by kernel_rfl) (fun _ _ _ h => h) (Or.inl ⟨by rfl, ?_⟩) hS0q ?_
              rotate_left
              · (intro w hSw; (try dsimp only at hSw); go_simp; try with_reducible rfl)
              simp only [Act.put, List.setIfInBounds_toArray, List.set_cons_zero, List.set_cons_succ]
              refine tk15 (v := ?_) (by kernel_rfl) (by kernel_rfl) (by kernel_rfl) (fun _ _ _ h => h) (Or.inl ⟨by rfl, ?_⟩) hS0q ?_
              rotate_left
              · (intro w hSw; (try dsimp only at hSw); go_simp; try with_reducible rfl)
              simp only [Act.put, List.setIfInBounds_toArray, List.set_cons_zero, List.set_cons_succ]
              refine tk16 (v := ?_) (by kernel_rfl) (by kernel_rfl) (by kernel_rfl) (fun _ _ _ h => h) (Or.inl ⟨by rfl, ?_⟩) hS0q ?_
              rotate_left
              · (intro w hSw; (try dsimp only at hSw); go_simp; try with_reducible rfl)
              simp only [Act.put, List.setIfInBounds_toArray, List.set_cons_zero, List.set_cons_succ]
              refine tk17 (v := ?_) (by kernel_rfl) (by kernel_rfl) (by kernel_rfl) (fun _ _ _ h => h) (Or.inl ⟨by rfl, ?_⟩) hS0q ?_
              rotate_left
              · (intro w hSw; (try dsimp only at hSw); go_simp; try with_reducible rfl)
              simp only [Act.put, List.setIfInBounds_toArray, List.set_cons_zero, List.set_cons_succ]
              refine wpAnyH_ready (rs := [18, 19]) (by kernel_rfl) (by simp) (st18 (fun K hK => ?_) (st19 (fun K hK => ?_) AllReadyH.nil))
              · skip
                go_simp
                refine (KR2.out _).mono ?_
                rintro _ V1q ⟨rfl, hb⟩
                go_wp2_with fail
                have hB1q := hB0q.trans (hb.mono hB0q.size)
                have hO1q := hO0q.below hb
                have np1q := np0q.below hb
                have hrow1q := hO1q.lt
                clear hb
                refine hK.out _ _ ?_ (fun hHeld => ?_)
                · exact hSV _ hB1q
                clear hK K
                try simp only [Act.put, List.setIfInBounds_toArray, List.set_cons_zero, List.set_cons_succ]
                refine wpAnyH_ready (rs := [19]) (by kernel_rfl) (by simp) (st19 (fun K hK => ?_) AllReadyH.nil)
                go_simp
                have hal := (Below.refl _ V1q).alloc (Nat.le_refl _) (.cells #[.int .i64 0, .int .i64 0] 24)
                refine hK.out _ _ ?_ (fun hHeld => ?_)
                · exact hSV _ (hB1q.trans (hal.mono hB1q.size))
                clear hK K
                try simp only [Act.put, List.setIfInBounds_toArray, List.set_cons_zero, List.set_cons_succ]
                clear hal
                refine wpAnyH_ready (rs := [20]) (by kernel_rfl) (by simp) (st20 (fun K hK => ?_) AllReadyH.nil)
                go_simp
                have ha := (Below.refl _ V1q).alloc (Nat.le_refl _) (.cells #[.int .i64 Z.sn, .int .i64 Z.sd] 24)
                refine hK.out _ _ ?_ (fun hHeld => ?_)
                · exact hSV _ (hB1q.trans (ha.mono hB1q.size))
                clear hK K
                try simp only [Act.put, List.setIfInBounds_toArray, List.set_cons_zero, List.set_cons_succ]
                refine wpAnyH_done (by kernel_rfl) ?_ _
                have nq := NmB.new V1q (Z.sn) (Z.sd)
                have hB2q := hB1q.trans (ha.mono hB1q.size)
                have hO2q := hO1q.below ha
                have np2q := np1q.below ha
                have hz1q := hB1q.size
                obtain ⟨Cq, hCq⟩ : ∃ C, C = V1q.alloc (.cells #[.int .i64 Z.sn, .int .i64 Z.sd] 24) := ⟨_, rfl⟩
                rw [← hCq] at nq hB2q hO2q np2q ⊢
                clear hCq ha
                go_wp2_with fail
                refine wp_region_dr mixed ?_
                have hd : RowKit.Below Cq.heap.size Cq Cq.drew := (Below.refl _ Cq).drew
                have hB3 := hB2q.trans (hd.mono hB2q.size)
                have hO3 := hO2q.below hd
                have n3 := np2q.below hd
                have n4 := nq.below hd
                have hz3 := hB3.size
                generalize Cq.drew = V3 at *
                clear hd
                refine wpAny_of_held (S := (fun w' => w'.cell? ⟨bf, of + k * 5, none⟩ = some (.int .i64 X.f) ∧ (w'.cell? ⟨V1p.heap.size, 0, none⟩ = some (.int .i64 Z.vn) ∧ w'.cell? ⟨V1p.heap.size, 1, none⟩ = some (.int .i64 Z.vd)) ∧ (w'.cell? ⟨V1q.heap.size, 0, none⟩ = some (.int .i64 Z.sn) ∧ w'.cell? ⟨V1q.heap.size, 1, none⟩ = some (.int .i64 Z.sd)))) _ _ _ _ ?_
                have hS3 := And.intro (hSV _ hB3).1.1 (And.intro n3.all n4.all)
                refine tk0 (v := ?_) (by kernel_rfl) (by kernel_rfl) (by kernel_rfl) (fun _ _ _ h => h) (Or.inl ⟨by rfl, ?_⟩) hS3 ?_
                rotate_left
                · (intro w hSw; (try dsimp only at hSw); go_simp; try with_reducible rfl)
                simp only [Act.put, List.setIfInBounds_toArray, List.set_cons_zero, List.set_cons_succ]
                refine tk1 (v := ?_) (by kernel_rfl) (by kernel_rfl) (by kernel_rfl) (fun _ _ _ h => h) (Or.inl ⟨by rfl, ?_⟩) hS3 ?_
                rotate_left
                · (intro w hSw; (try dsimp only at hSw); go_simp; try with_reducible rfl)
                simp only [Act.put, List.setIfInBounds_toArray, List.set_cons_zero, List.set_cons_succ]
                refine tk2 (v := ?_) (by kernel_rfl) (by kernel_rfl) (by kernel_rfl) (fun _ _ _ h => h) (Or.inl ⟨by rfl, ?_⟩) hS3 ?_
                rotate_left
                · (intro w hSw; (try dsimp only at hSw); go_simp; try with_reducible rfl)
                simp only [Act.put, List.setIfInBounds_toArray, List.set_cons_zero, List.set_cons_succ]
                refine tk3 (v := ?_) (by kernel_rfl) (by kernel_rfl) (by kernel_rfl) (fun _ _ _ h => h) (Or.inl ⟨by rfl, ?_⟩) hS3 ?_
                rotate_left
                · (intro w hSw; (try dsimp only at hSw); go_simp; try with_reducible rfl)
                simp only [Act.put, List.setIfInBounds_toArray, List.set_cons_zero, List.set_cons_succ]
                refine tk4 (v := ?_) (by kernel_rfl) (by kernel_rfl) (by kernel_rfl) (fun _ _ _ h => h) (Or.inl ⟨by rfl, ?_⟩) hS3 ?_
                rotate_left
                · (intro w hSw; (try dsimp only at hSw); go_simp; try with_reducible rfl)
                simp only [Act.put, List.setIfInBounds_toArray, List.set_cons_zero, List.set_cons_succ]
                refine tk5 (v := ?_) (by kernel_rfl) (by kernel_rfl) (by kernel_rfl) (fun _ _ _ h => h) (Or.inl ⟨by rfl, ?_⟩) hS3 ?_
                rotate_left
                · (intro w hSw; (try dsimp only at hSw); go_simp; try with_reducible rfl)
                simp only [Act.put, List.setIfInBounds_toArray, List.set_cons_zero, List.set_cons_succ]
                refine tk6 (v := ?_) (by kernel_rfl) (by kernel_rfl) (by kernel_rfl) (fun _ _ _ h => h) (Or.inl ⟨by rfl, ?_⟩) hS3 ?_
                rotate_left
                · (intro w hSw; (try dsimp only at hSw); go_simp; try with_reducible rfl)
                simp only [Act.put, List.setIfInBounds_toArray, List.set_cons_zero, List.set_cons_succ]
                refine tk7 (v := ?_) (by kernel_rfl) (by kernel_rfl) (by kernel_rfl) (fun _ _ _ h => h) (Or.inl ⟨by rfl, ?_⟩) hS3 ?_
                rotate_left
                · (intro w hSw; (try dsimp only at hSw); go_simp; try with_reducible rfl)
                simp only [Act.put, List.setIfInBounds_toArray, List.set_cons_zero, List.set_cons_succ]
                refine tk8 (v := ?_) (by kernel_rfl) (by kernel_rfl) (by kernel_rfl) (fun _ _ _ h => h) (Or.inl ⟨by rfl, ?_⟩) hS3 ?_
                rotate_left
                · (intro w hSw; (try dsimp only at hSw); go_simp; try with_reducible rfl)
                simp only [Act.put, List.setIfInBounds_toArray, List.set_cons_zero, List.set_cons_succ]
                refine wpAnyH_ready (rs := [9]) (by kernel_rfl) (by simp) (st9 (fun K hK => ?_) AllReadyH.nil)
                go_simp
                have hal := (Below.refl _ V3).alloc (Nat.le_refl _) (.cells #[.int .i64 X.f, .int .i64 Z.vn, .int .i64 Z.vd, .int .i64 Z.sn, .int .i64 Z.sd] 51)
                have hB4 := hB3.trans (hal.mono hB3.size)
                refine hK.out _ _ ?_ (fun hHeld => ?_)
                · exact ⟨(hSV _ hB4).1.1, (n3.below hal).all, (n4.below hal).all⟩
                clear hK K
                try simp only [Act.put, List.setIfInBounds_toArray, List.set_cons_zero, List.set_cons_succ]
                refine wpAnyH_ready (rs := [10]) (by kernel_rfl) (by simp) (st10 (fun K hK => ?_) AllReadyH.nil)
                refine step_appP rfl (.tmp 87) (.tmp 96) rfl w2.heap.size _ _ rfl (hO3.below hal) V3.heap.size 1 Z rfl (by have := OneP.new V3 Z 51; rw [HZ0.out] at this; exact this) (by have := HTL.out; omega) (by simp; omega) (fun v' w' ho hg => ?_)
                have HB5 : Hid (RowKit.Below w2.heap.size w2 w') := hB4.grown hg (by simp; omega) (hO3.below hal).block
                have HO5 : Hid (OwnP w' w2.heap.size v' ((rdG (scT rn) (f.take (k + 1))).map (muR rn rd))) := by show OwnP _ _ _ _; rw [HTk.out]; exact ho
                have n5 : NmB w' (V1p.heap.size) Z.vn Z.vd := (hg.block _ (by have := (Array.getElem?_eq_some_iff.1 (n3.below hal)).1; exact this) (fun e => by have := hrow1p _ e.symm; omega)).trans (n3.below hal)
                have n6 : NmB w' (V1q.heap.size) Z.sn Z.sd := (hg.block _ (by have := (Array.getElem?_eq_some_iff.1 (n4.below hal)).1; exact this) (fun e => by have := hrow1q _ e.symm; omega)).trans (n4.below hal)
                refine hK.out _ _ ?_ (fun hHeld => ?_)
                · exact ⟨(hSV _ HB5.out).1.1, n5.all, n6.all⟩
                clear hK K
                try simp only [Act.put, List.setIfInBounds_toArray, List.set_cons_zero, List.set_cons_succ]
                refine tk11 (v := ?_) (by kernel_rfl) (by kernel_rfl) (by kernel_rfl) (fun _ _ _ h => h) (Or.inl ⟨by rfl, ?_⟩) hHeld ?_
                rotate_left
                · (intro w hSw; (try dsimp only at hSw); go_simp; try with_reducible rfl)
                simp only [Act.put, List.setIfInBounds_toArray, List.set_cons_zero, List.set_cons_succ]
                refine wpAnyH_done (by kernel_rfl) ?_ _
                clear ho hg hal hB4 hO3 hB3 hS3 n3 n4
                obtain ⟨c0, c1⟩ := n5.all
                obtain ⟨c2, c3⟩ := n6.all
                cases c with
                | false =>
                  have E : Hid (RS = ([], 3)) := by show _ = _; rw [HRS.out, if_neg (scale_no HTk.out HCC.out.symm)]
                  go_wp2_with fail
                  refine (rvalid_b [⟨0, Z.vn, Z.vd, Z.sn, Z.sd⟩] false HV.out.1 (some ⟨w'.heap.size + 1, 0, none⟩) (w'.heap.size + 1) 0 1 1 _ (slp_at (w'.alloc (.cells #[.int .i64 0, .int .i64 Z.vn, .int .i64 Z.vd, .int .i64 Z.sn, .int .i64 Z.sd] 51)) (w'.heap.size + 1) (by simp) [⟨0, Z.vn, Z.vd, Z.sn, Z.sd⟩] _ _ 1 rfl rfl (by omega) HV.out.2)).mono ?_
                  rintro _ w6 ⟨rfl, hb⟩
                  have hw6 : RowKit.Below w'.heap.size w' w6 := (((Below.refl _ w').alloc (Nat.le_refl _) _).alloc (by simp) _).trans (hb.mono (by simp; omega))
                  have HB6 := Lib.hid (HB5.out.trans (hw6.mono HB5.out.size))
                  clear c0 c1 c2 c3 hb
                  go_wp2
                  go_ret2
                  rw [E.out]
                  exact OutP.bad (HB2.out.trans (HB6.out.mono (Nat.le_of_lt hz2)))
                | true =>
                  have HA2 : Hid (((rdG (scT rn) (f.take (k + 1))).map (muR rn rd)).all wl = true) := by show _ = _; rw [HTk.out, List.all_append, HA.out, List.all_cons, ← HCC.out]; rfl
                  go_wp2_with fail
                  refine (rvalid_b [⟨0, Z.vn, Z.vd, Z.sn, Z.sd⟩] true HV.out.1 (some ⟨w'.heap.size + 1, 0, none⟩) (w'.heap.size + 1) 0 1 1 _ (slp_at (w'.alloc (.cells #[.int .i64 0, .int .i64 Z.vn, .int .i64 Z.vd, .int .i64 Z.sn, .int .i64 Z.sd] 51)) (w'.heap.size + 1) (by simp) [⟨0, Z.vn, Z.vd, Z.sn, Z.sd⟩] _ _ 1 rfl rfl (by omega) HV.out.2)).mono ?_
                  rintro _ w6 ⟨rfl, hb⟩
                  have hw6 : RowKit.Below w'.heap.size w' w6 := (((Below.refl _ w').alloc (Nat.le_refl _) _).alloc (by simp) _).trans (hb.mono (by simp; omega))
                  have HB6 := Lib.hid (HB5.out.trans (hw6.mono HB5.out.size))
                  clear c0 c1 c2 c3 hb
                  have HO6 := Lib.hid (HO5.out.below hw6)
                  clear hw6
                  go_wp2
                  go_roundg (lf - (k + 1))
                  case measure => omega
                  case rel => exact ⟨k + 1, by go_num, by omega, by omega, HB6.out, HO6.out, HA2.out⟩
              · skip
                go_simp
                have hal := (Below.refl _ V0q).alloc (Nat.le_refl _) (.cells #[.int .i64 0, .int .i64 0] 24)
                refine hK.out _ _ ?_ (fun hHeld => ?_)
                · exact hSV _ (hB0q.trans (hal.mono hB0q.size))
                clear hK K
                try simp only [Act.put, List.setIfInBounds_toArray, List.set_cons_zero, List.set_cons_succ]
                refine wpAnyH_ready (rs := [18]) (by kernel_rfl) (by simp) (st18 (fun K hK => ?_) AllReadyH.nil)
                go_simp
                refine (KR2.out _).mono ?_
                rintro _ V1q ⟨rfl, hb⟩
                go_wp2_with fail
                have hab := hal.trans (hb.mono hal.size)
                have hB1q := hB0q.trans (hab.mono hB0q.size)
                have hO1q := hO0q.below hab
                have nzq := (NmB.new V0q 0 0).below hb
                have np1q := np0q.below hab
                clear hb hal hab
                refine hK.out _ _ ?_ (fun hHeld => ?_)
                · exact hSV _ hB1q
                clear hK K
                try simp only [Act.put, List.setIfInBounds_toArray, List.set_cons_zero, List.set_cons_succ]
                refine wpAnyH_ready (rs := [20]) (by kernel_rfl) (by simp) (st20 (fun K hK => ?_) AllReadyH.nil)
                obtain ⟨c0q, c1q⟩ := nzq.all
                obtain ⟨f0q, f1q⟩ := nzq.fz
                go_simp
                have nq := nzq.put (Z.sn) (Z.sd)
                have hB2q : RowKit.Below w2.heap.size w2 ((V1q.setCell ⟨V0q.heap.size, 0, none⟩ (.int .i64 (Z.sn))).setCell ⟨V0q.heap.size, 1, none⟩ (.int .i64 (Z.sd))) := (hB1q.setCell hzq _).setCell hzq _
                have hO2q := hO1q.other nzq (by decide) (fun k hk => put2_other V1q (Z.sn) (Z.sd) hk)
                have np2q : NmB _ (V1p.heap.size) (Z.vn) (Z.vd) := (put2_other V1q (Z.sn) (Z.sd) (show V1p.heap.size ≠ V0q.heap.size by have := lnpq; omega)).trans np1q
                refine hK.out _ _ ?_ (fun hHeld => ?_)
                · exact hSV _ hB2q
                clear hK K
                try simp only [Act.put, List.setIfInBounds_toArray, List.set_cons_zero, List.set_cons_succ]
                refine wpAnyH_done (by kernel_rfl) ?_ _
                have hrow1q := hrowq
                have hz1q := hzq
                obtain ⟨Cq, hCq⟩ : ∃ C, C = (V1q.setCell ⟨V0q.heap.size, 0, none⟩ (.int .i64 (Z.sn))).setCell ⟨V0q.heap.size, 1, none⟩ (.int .i64 (Z.sd)) := ⟨_, rfl⟩
                rw [← hCq] at nq hB2q hO2q np2q ⊢
                clear hCq c0q c1q f0q f1q
                go_wp2_with fail
                refine wp_region_dr mixed ?_
                have hd : RowKit.Below Cq.heap.size Cq Cq.drew := (Below.refl _ Cq).drew
                have hB3 := hB2q.trans (hd.mono hB2q.size)
                have hO3 := hO2q.below hd
                have n3 := np2q.below hd
                have n4 := nq.below hd
                have hz3 := hB3.size
                generalize Cq.drew = V3 at *
                clear hd
                refine wpAny_of_held (S := (fun w' => w'.cell? ⟨bf, of + k * 5, none⟩ = some (.int .i64 X.f) ∧ (w'.cell? ⟨V1p.heap.size, 0, none⟩ = some (.int .i64 Z.vn) ∧ w'.cell? ⟨V1p.heap.size, 1, none⟩ = some (.int .i64 Z.vd)) ∧ (w'.cell? ⟨V0q.heap.size, 0, none⟩ = some (.int .i64 Z.sn) ∧ w'.cell? ⟨V0q.heap.size, 1, none⟩ = some (.int .i64 Z.sd)))) _ _ _ _ ?_
                have hS3 := And.intro (hSV _ hB3).1.1 (And.intro n3.all n4.all)
                refine tk0 (v := ?_) (by kernel_rfl) (by kernel_rfl) (by kernel_rfl) (fun _ _ _ h => h) (Or.inl ⟨by rfl, ?_⟩) hS3 ?_
                rotate_left
                · (intro w hSw; (try dsimp only at hSw); go_simp; try with_reducible rfl)
                simp only [Act.put, List.setIfInBounds_toArray, List.set_cons_zero, List.set_cons_succ]
                refine tk1 (v := ?_) (by kernel_rfl) (by kernel_rfl) (by kernel_rfl) (fun _ _ _ h => h) (Or.inl ⟨by rfl, ?_⟩) hS3 ?_
                rotate_left
                · (intro w hSw; (try dsimp only at hSw); go_simp; try with_reducible rfl)
                simp only [Act.put, List.setIfInBounds_toArray, List.set_cons_zero, List.set_cons_succ]
                refine tk2 (v := ?_) (by kernel_rfl) (by kernel_rfl) (by kernel_rfl) (fun _ _ _ h => h) (Or.inl ⟨by rfl, ?_⟩) hS3 ?_
                rotate_left
                · (intro w hSw; (try dsimp only at hSw); go_simp; try with_reducible rfl)
                simp only [Act.put, List.setIfInBounds_toArray, List.set_cons_zero, List.set_cons_succ]
                refine tk3 (v := ?_) (by kernel_rfl) (by kernel_rfl) (by kernel_rfl) (fun _ _ _ h => h) (Or.inl ⟨by rfl, ?_⟩) hS3 ?_
                rotate_left
                · (intro w hSw; (try dsimp only at hSw); go_simp; try with_reducible rfl)
                simp only [Act.put, List.setIfInBounds_toArray, List.set_cons_zero, List.set_cons_succ]
                refine tk4 (v := ?_) (by kernel_rfl) (by kernel_rfl) (by kernel_rfl) (fun _ _ _ h => h) (Or.inl ⟨by rfl, ?_⟩) hS3 ?_
                rotate_left
                · (intro w hSw; (try dsimp only at hSw); go_simp; try with_reducible rfl)
                simp only [Act.put, List.setIfInBounds_toArray, List.set_cons_zero, List.set_cons_succ]
                refine tk5 (v := ?_) (by kernel_rfl) (by kernel_rfl) (by kernel_rfl) (fun _ _ _ h => h) (Or.inl ⟨by rfl, ?_⟩) hS3 ?_
                rotate_left
                · (intro w hSw; (try dsimp only at hSw); go_simp; try with_reducible rfl)
                simp only [Act.put, List.setIfInBounds_toArray, List.set_cons_zero, List.set_cons_succ]
                refine tk6 (v := ?_) (by kernel_rfl) (by kernel_rfl) (by kernel_rfl) (fun _ _ _ h => h) (Or.inl ⟨by rfl, ?_⟩) hS3 ?_
                rotate_left
                · (intro w hSw; (try dsimp only at hSw); go_simp; try with_reducible rfl)
                simp only [Act.put, List.setIfInBounds_toArray, List.set_cons_zero, List.set_cons_succ]
                refine tk7 (v := ?_) (by kernel_rfl) (by kernel_rfl) (by kernel_rfl) (fun _ _ _ h => h) (Or.inl ⟨by rfl, ?_⟩) hS3 ?_
                rotate_left
                · (intro w hSw; (try dsimp only at hSw); go_simp; try with_reducible rfl)
                simp only [Act.put, List.setIfInBounds_toArray, List.set_cons_zero, List.set_cons_succ]
                refine tk8 (v := ?_) (by kernel_rfl) (by kernel_rfl) (by kernel_rfl) (fun _ _ _ h => h) (Or.inl ⟨by rfl, ?_⟩) hS3 ?_
                rotate_left
                · (intro w hSw; (try dsimp only at hSw); go_simp; try with_reducible rfl)
                simp only [Act.put, List.setIfInBounds_toArray, List.set_cons_zero, List.set_cons_succ]
                refine wpAnyH_ready (rs := [9]) (by kernel_rfl) (by simp) (st9 (fun K hK => ?_) AllReadyH.nil)
                go_simp
                have hal := (Below.refl _ V3).alloc (Nat.le_refl _) (.cells #[.int .i64 X.f, .int .i64 Z.vn, .int .i64 Z.vd, .int .i64 Z.sn, .int .i64 Z.sd] 51)
                have hB4 := hB3.trans (hal.mono hB3.size)
                refine hK.out _ _ ?_ (fun hHeld => ?_)
                · exact ⟨(hSV _ hB4).1.1, (n3.below hal).all, (n4.below hal).all⟩
                clear hK K
                try simp only [Act.put, List.setIfInBounds_toArray, List.set_cons_zero, List.set_cons_succ]
                refine wpAnyH_ready (rs := [10]) (by kernel_rfl) (by simp) (st10 (fun K hK => ?_) AllReadyH.nil)
                refine step_appP rfl (.tmp 87) (.tmp 96) rfl w2.heap.size _ _ rfl (hO3.below hal) V3.heap.size 1 Z rfl (by have := OneP.new V3 Z 51; rw [HZ0.out] at this; exact this) (by have := HTL.out; omega) (by simp; omega) (fun v' w' ho hg => ?_)
                have HB5 : Hid (RowKit.Below w2.heap.size w2 w') := hB4.grown hg (by simp; omega) (hO3.below hal).block
                have HO5 : Hid (OwnP w' w2.heap.size v' ((rdG (scT rn) (f.take (k + 1))).map (muR rn rd))) := by show OwnP _ _ _ _; rw [HTk.out]; exact ho
                have n5 : NmB w' (V1p.heap.size) Z.vn Z.vd := (hg.block _ (by have := (Array.getElem?_eq_some_iff.1 (n3.below hal)).1; exact this) (fun e => by have := hrow1p _ e.symm; omega)).trans (n3.below hal)
                have n6 : NmB w' (V0q.heap.size) Z.sn Z.sd := (hg.block _ (by have := (Array.getElem?_eq_some_iff.1 (n4.below hal)).1; exact this) (fun e => by have := hrow1q _ e.symm; omega)).trans (n4.below hal)
                refine hK.out _ _ ?_ (fun hHeld => ?_)
                · exact ⟨(hSV _ HB5.out).1.1, n5.all, n6.all⟩
                clear hK K
                try simp only [Act.put, List.setIfInBounds_toArray, List.set_cons_zero, List.set_cons_succ]
                refine tk11 (v := ?_) (by kernel_rfl) (by kernel_rfl) (by kernel_rfl) (fun _ _ _ h => h) (Or.inl ⟨by rfl, ?_⟩) hHeld ?_
                rotate_left
                · (intro w hSw; (try dsimp only at hSw); go_simp; try with_reducible rfl)
                simp only [Act.put, List.setIfInBounds_toArray, List.set_cons_zero, List.set_cons_succ]
                refine wpAnyH_done (by kernel_rfl) ?_ _
                clear ho hg hal hB4 hO3 hB3 hS3 n3 n4
                obtain ⟨c0, c1⟩ := n5.all
                obtain ⟨c2, c3⟩ := n6.all
                cases c with
                | false =>
                  have E : Hid (RS = ([], 3)) := by show _ = _; rw [HRS.out, if_neg (scale_no HTk.out HCC.out.symm)]
                  go_wp2_with fail
                  refine (rvalid_b [⟨0, Z.vn, Z.vd, Z.sn, Z.sd⟩] false HV.out.1 (some ⟨w'.heap.size + 1, 0, none⟩) (w'.heap.size + 1) 0 1 1 _ (slp_at (w'.alloc (.cells #[.int .i64 0, .int .i64 Z.vn, .int .i64 Z.vd, .int .i64 Z.sn, .int .i64 Z.sd] 51)) (w'.heap.size + 1) (by simp) [⟨0, Z.vn, Z.vd, Z.sn, Z.sd⟩] _ _ 1 rfl rfl (by omega) HV.out.2)).mono ?_
                  rintro _ w6 ⟨rfl, hb⟩
                  have hw6 : RowKit.Below w'.heap.size w' w6 := (((Below.refl _ w').alloc (Nat.le_refl _) _).alloc (by simp) _).trans (hb.mono (by simp; omega))
                  have HB6 := Lib.hid (HB5.out.trans (hw6.mono HB5.out.size))
                  clear c0 c1 c2 c3 hb
                  go_wp2
                  go_ret2
                  rw [E.out]
                  exact OutP.bad (HB2.out.trans (HB6.out.mono (Nat.le_of_lt hz2)))
                | true =>
                  have HA2 : Hid (((rdG (scT rn) (f.take (k + 1))).map (muR rn rd)).all wl = true) := by show _ = _; rw [HTk.out, List.all_append, HA.out, List.all_cons, ← HCC.out]; rfl
                  go_wp2_with fail
                  refine (rvalid_b [⟨0, Z.vn, Z.vd, Z.sn, Z.sd⟩] true HV.out.1 (some ⟨w'.heap.size + 1, 0, none⟩) (w'.heap.size + 1) 0 1 1 _ (slp_at (w'.alloc (.cells #[.int .i64 0, .int .i64 Z.vn, .int .i64 Z.vd, .int .i64 Z.sn, .int .i64 Z.sd] 51)) (w'.heap.size + 1) (by simp) [⟨0, Z.vn, Z.vd, Z.sn, Z.sd⟩] _ _ 1 rfl rfl (by omega) HV.out.2)).mono ?_
                  rintro _ w6 ⟨rfl, hb⟩
                  have hw6 : RowKit.Below w'.heap.size w' w6 := (((Below.refl _ w').alloc (Nat.le_refl _) _).alloc (by simp) _).trans (hb.mono (by simp; omega))
                  have HB6 := Lib.hid (HB5.out.trans (hw6.mono HB5.out.size))
                  clear c0 c1 c2 c3 hb
                  have HO6 := Lib.hid (HO5.out.below hw6)
                  clear hw6
                  go_wp2
                  go_roundg (lf - (k + 1))
                  case measure => omega
                  case rel => exact ⟨k + 1, by go_num, by omega, by omega, HB6.out, HO6.out, HA2.out⟩
            · skip
              go_simp
              have hal := (Below.refl _ V0p).alloc (Nat.le_refl _) (.cells #[.int .i64 0, .int .i64 0] 24)
              refine hK.out _ _ ?_ (fun hHeld => ?_)
              · exact hSV _ (hB0p.trans (hal.mono hB0p.size))
              clear hK K
              try simp only [Act.put, List.setIfInBounds_toArray, List.set_cons_zero, List.set_cons_succ]
              refine wpAnyH_ready (rs := [18]) (by kernel_rfl) (by simp) (st18 (fun K hK => ?_) AllReadyH.nil)
              go_simp
              refine (KR1.out _).mono ?_
              rintro _ V1p ⟨rfl, hb⟩
              go_wp2_with fail
              have hab := hal.trans (hb.mono hal.size)
              have hB1p := hB0p.trans (hab.mono hB0p.size)
              have hO1p := hO0p.below hab
              have nzp := (NmB.new V0p 0 0).below hb
              clear hb hal hab
              refine hK.out _ _ ?_ (fun hHeld => ?_)
              · exact hSV _ hB1p
              clear hK K
              try simp only [Act.put, List.setIfInBounds_toArray, List.set_cons_zero, List.set_cons_succ]
              refine wpAnyH_ready (rs := [20]) (by kernel_rfl) (by simp) (st20 (fun K hK => ?_) AllReadyH.nil)
              obtain ⟨c0p, c1p⟩ := nzp.all
              obtain ⟨f0p, f1p⟩ := nzp.fz
              go_simp
              have np := nzp.put (Z.vn) (Z.vd)
              have hB2p : RowKit.Below w2.heap.size w2 ((V1p.setCell ⟨V0p.heap.size, 0, none⟩ (.int .i64 (Z.vn))).setCell ⟨V0p.heap.size, 1, none⟩ (.int .i64 (Z.vd))) := (hB1p.setCell hzp _).setCell hzp _
              have hO2p := hO1p.other nzp (by decide) (fun k hk => put2_other V1p (Z.vn) (Z.vd) hk)
              refine hK.out _ _ ?_ (fun hHeld => ?_)
              · exact hSV _ hB2p
              clear hK K
              try simp only [Act.put, List.setIfInBounds_toArray, List.set_cons_zero, List.set_cons_succ]
              refine wpAnyH_done (by kernel_rfl) ?_ _
              have hrow1p := hrowp
              have hz1p := hzp
              obtain ⟨Cp, hCp⟩ : ∃ C, C = (V1p.setCell ⟨V0p.heap.size, 0, none⟩ (.int .i64 (Z.vn))).setCell ⟨V0p.heap.size, 1, none⟩ (.int .i64 (Z.vd)) := ⟨_, rfl⟩
              rw [← hCp] at np hB2p hO2p  ⊢
              clear hCp c0p c1p f0p f1p
              go_wp2_with fail
              refine wp_region_dr mixed ?_
              have hd : RowKit.Below Cp.heap.size Cp Cp.drew := (Below.refl _ Cp).drew
              have hB0q := hB2p.trans (hd.mono hB2p.size)
              have hO0q := hO2p.below hd
              have np0q := np.below hd
              have hrowq := hO0q.lt
              have hzq := hB0q.size
              have lnpq := (Array.getElem?_eq_some_iff.1 np0q).1
              generalize Cp.drew = V0q at *
              clear hd
              refine wpAny_of_held (S := (fun w' => (w'.cell? ⟨bf, of + k * 5, none⟩ = some (.int .i64 X.f) ∧ w'.cell? ⟨bf, of + k * 5 + 1, none⟩ = some (.int .i64 X.vn) ∧ w'.cell? ⟨bf, of + k * 5 + 2, none⟩ = some (.int .i64 X.vd) ∧ w'.cell? ⟨bf, of + k * 5 + 3, none⟩ = some (.int .i64 X.sn) ∧ w'.cell? ⟨bf, of + k * 5 + 4, none⟩ = some (.int .i64 X.sd)) ∧ w'.cell? ⟨w.heap.size, 0, none⟩ = some (.int .i64 rn) ∧ w'.cell? ⟨w.heap.size, 1, none⟩ = some (.int .i64 rd))) _ _ _ _ ?_
              have hS0q := hSV _ hB0q
              refine tk0 (v := ?_) (by kernel_rfl) (by kernel_rfl) (by kernel_rfl) (fun _ _ _ h => h) (Or.inl ⟨by rfl, ?_⟩) hS0q ?_
              rotate_left
              · (intro w hSw; (try dsimp only at hSw); go_simp; try with_reducible rfl)
              simp only [Act.put, List.setIfInBounds_toArray, List.set_cons_zero, List.set_cons_succ]
              refine tk1 (v := ?_) (by kernel_rfl) (by kernel_rfl) (by kernel_rfl) (fun _ _ _ h => h) (Or.inl ⟨by rfl, ?_⟩) hS0q ?_
              rotate_left
              · (intro w hSw; (try dsimp only at hSw); go_simp; try with_reducible rfl)
              simp only [Act.put, List.setIfInBounds_toArray, List.set_cons_zero, List.set_cons_succ]
              refine tk2 (v := ?_) (by kernel_rfl) (by kernel_rfl) (by kernel_rfl) (fun _ _ _ h => h) (Or.inl ⟨by rfl, ?_⟩) hS0q ?_
              rotate_left
              · (intro w hSw; (try dsimp only at hSw); go_simp; try with_reducible rfl)
              simp only [Act.put, List.setIfInBounds_toArray, List.set_cons_zero, List.set_cons_succ]
              refine tk3 (v := ?_) (by kernel_rfl) (by kernel_rfl) (by kernel_rfl) (fun _ _ _ h => h) (Or.inl ⟨by rfl, ?_⟩) hS0q ?_
              rotate_left
              · (intro w hSw; (try dsimp only at hSw); go_simp; try with_reducible rfl)
              simp only [Act.put, List.setIfInBounds_toArray, List.set_cons_zero, List.set_cons_succ]
              refine tk4 (v := ?_) (by kernel_rfl) (by kernel_rfl) (by kernel_rfl) (fun _ _ _ h => h) (Or.inl ⟨by rfl, ?_⟩) hS0q ?_
              rotate_left
              · (intro w hSw; (try dsimp only at hSw); go_simp; try with_reducible rfl)
              simp only [Act.put, List.setIfInBounds_toArray, List.set_cons_zero, List.set_cons_succ]
              refine tk5 (v := ?_) (by kernel_rfl) (by kernel_rfl) (by kernel_rfl) (fun _ _ _ h => h) (Or.inl ⟨by rfl, ?_⟩) hS0q ?_
              rotate_left
              · (intro w hSw; (try dsimp only at hSw); go_simp; try with_reducible rfl)
              simp only [Act.put, List.setIfInBounds_toArray, List.set_cons_zero, List.set_cons_succ]
              refine tk6 (v := ?_) (by kernel_rfl) (by kernel_rfl) (by kernel_rfl) (fun _ _ _ h => h) (Or.inl ⟨by rfl, ?_⟩) hS0q ?_
              rotate_left
              · (intro w hSw; (try dsimp only at hSw); go_simp; try with_reducible rfl)
              simp only [Act.put, List.setIfInBounds_toArray, List.set_cons_zero, List.set_cons_succ]
              refine tk7 (v := ?_) (by kernel_rfl) (by kernel_rfl) (by kernel_rfl) (fun _ _ _ h => h) (Or.inl ⟨by rfl, ?_⟩) hS0q ?_
              rotate_left
              · (intro w hSw; (try dsimp only at hSw); go_simp; try with_reducible rfl)
              simp only [Act.put, List.setIfInBounds_toArray, List.set_cons_zero, List.set_cons_succ]
              refine tk8 (v := ?_) (by kernel_rfl) (by kernel_rfl) (by kernel_rfl) (fun _ _ _ h => h) (Or.inl ⟨by rfl, ?_⟩) hS0q ?_
              rotate_left
              · (intro w hSw; (try dsimp only at hSw); go_simp; try with_reducible rfl)
              simp only [Act.put, List.setIfInBounds_toArray, List.set_cons_zero, List.set_cons_succ]
              refine tk9 (v := ?_) (by kernel_rfl) (by kernel_rfl) (by kernel_rfl) (fun _ _ _ h => h) (Or.inl ⟨by rfl, ?_⟩) hS0q ?_
              rotate_left
              · (intro w hSw; (try dsimp only at hSw); go_simp; try with_reducible rfl)
              simp only [Act.put, List.setIfInBounds_toArray, List.set_cons_zero, List.set_cons_succ]
              refine tk10 (v := ?_) (by kernel_rfl) (by kernel_rfl) (by kernel_rfl) (fun _ _ _ h => h) (Or.inl ⟨by rfl, ?_⟩) hS0q ?_
              rotate_left
              · (intro w hSw; (try dsimp only at hSw); go_simp; try with_reducible rfl)
              simp only [Act.put, List.setIfInBounds_toArray, List.set_cons_zero, List.set_cons_succ]
              refine tk11 (v := ?_) (by kernel_rfl) (by kernel_rfl) (by kernel_rfl) (fun _ _ _ h => h) (Or.inl ⟨by rfl, ?_⟩) hS0q ?_
              rotate_left
              · (intro w hSw; (try dsimp only at hSw); go_simp; try with_reducible rfl)
              simp only [Act.put, List.setIfInBounds_toArray, List.set_cons_zero, List.set_cons_succ]
              refine tk12 (v := ?_) (by kernel_rfl) (by kernel_rfl) (by kernel_rfl) (fun _ _ _ h => h) (Or.inl ⟨by rfl, ?_⟩) hS0q ?_
              rotate_left
              · (intro w hSw; (try dsimp only at hSw); go_simp; try with_reducible rfl)
              simp only [Act.put, List.setIfInBounds_toArray, List.set_cons_zero, List.set_cons_succ]
              refine tk13 (v := ?_) (by kernel_rfl) (by kernel_rfl) (by kernel_rfl) (fun _ _ _ h => h) (Or.inl ⟨by rfl, ?_⟩) hS0q ?_
              rotate_left
              · (intro w hSw; (try dsimp only at hSw); go_simp; try with_reducible rfl)
              simp only [Act.put, List.setIfInBounds_toArray, List.set_cons_zero, List.set_cons_succ]
              refine tk14 (v := ?_) (by kernel_rfl) (by kernel_rfl) (by kernel_rfl) (fun _ _ _ h => h) (Or.inl ⟨by rfl, ?_⟩) hS0q ?_
              rotate_left
              · (intro w hSw; (try dsimp only at hSw); go_simp; try with_reducible rfl)
              simp only [Act.put, List.setIfInBounds_toArray, List.set_cons_zero, List.set_cons_succ]
              refine tk15 (v := ?_) (by kernel_rfl) (by kernel_rfl) (by kernel_rfl) (fun _ _ _ h => h) (Or.inl ⟨by rfl, ?_⟩) hS0q ?_
              rotate_left
              · (intro w hSw; (try dsimp only at hSw); go_simp; try with_reducible rfl)
              simp only [Act.put, List.setIfInBounds_toArray, List.set_cons_zero, List.set_cons_succ]
              refine tk16 (v := ?_) (by kernel_rfl) (by kernel_rfl) (by kernel_rfl) (fun _ _ _ h => h) (Or.inl ⟨by rfl, ?_⟩) hS0q ?_
              rotate_left
              · (intro w hSw; (try dsimp only at hSw); go_simp; try with_reducible rfl)
              simp only [Act.put, List.setIfInBounds_toArray, List.set_cons_zero, List.set_cons_succ]
              refine tk17 (v := ?_) (by kernel_rfl) (by kernel_rfl) (by kernel_rfl) (fun _ _ _ h => h) (Or.inl ⟨by rfl, ?_⟩) hS0q ?_
              rotate_left
              · (intro w hSw; (try dsimp only at hSw); go_simp; try with_reducible rfl)
              simp only [Act.put, List.setIfInBounds_toArray, List.set_cons_zero, List.set_cons_succ]
              refine wpAnyH_ready (rs := [18, 19]) (by kernel_rfl) (by simp) (st18 (fun K hK => ?_) (st19 (fun K hK => ?_) AllReadyH.nil))
              · skip
                go_simp
                refine (KR2.out _).mono ?_
                rintro _ V1q ⟨rfl, hb⟩
                go_wp2_with fail
                have hB1q := hB0q.trans (hb.mono hB0q.size)
                have hO1q := hO0q.below hb
                have np1q := np0q.below hb
                have hrow1q := hO1q.lt
                clear hb
                refine hK.out _ _ ?_ (fun hHeld => ?_)
                · exact hSV _ hB1q
                clear hK K
                try simp only [Act.put, List.setIfInBounds_toArray, List.set_cons_zero, List.set_cons_succ]
                refine wpAnyH_ready (rs := [19]) (by kernel_rfl) (by simp) (st19 (fun K hK => ?_) AllReadyH.nil)
                go_simp
                have hal := (Below.refl _ V1q).alloc (Nat.le_refl _) (.cells #[.int .i64 0, .int .i64 0] 24)
                refine hK.out _ _ ?_ (fun hHeld => ?_)
                · exact hSV _ (hB1q.trans (hal.mono hB1q.size))
                clear hK K
                try simp only [Act.put, List.setIfInBounds_toArray, List.set_cons_zero, List.set_cons_succ]
                clear hal
                refine wpAnyH_ready (rs := [20]) (by kernel_rfl) (by simp) (st20 (fun K hK => ?_) AllReadyH.nil)
                go_simp
                have ha := (Below.refl _ V1q).alloc (Nat.le_refl _) (.cells #[.int .i64 Z.sn, .int .i64 Z.sd] 24)
                refine hK.out _ _ ?_ (fun hHeld => ?_)
                · exact hSV _ (hB1q.trans (ha.mono hB1q.size))
                clear hK K
                try simp only [Act.put, List.setIfInBounds_toArray, List.set_cons_zero, List.set_cons_succ]
                refine wpAnyH_done (by kernel_rfl) ?_ _
                have nq := NmB.new V1q (Z.sn) (Z.sd)
                have hB2q := hB1q.trans (ha.mono hB1q.size)
                have hO2q := hO1q.below ha
                have np2q := np1q.below ha
                have hz1q := hB1q.size
                obtain ⟨Cq, hCq⟩ : ∃ C, C = V1q.alloc (.cells #[.int .i64 Z.sn, .int .i64 Z.sd] 24) := ⟨_, rfl⟩
                rw [← hCq] at nq hB2q hO2q np2q ⊢
                clear hCq ha
                go_wp2_with fail
                refine wp_region_dr mixed ?_
                have hd : RowKit.Below Cq.heap.size Cq Cq.drew := (Below.refl _ Cq).drew
                have hB3 := hB2q.trans (hd.mono hB2q.size)
                have hO3 := hO2q.below hd
                have n3 := np2q.below hd
                have n4 := nq.below hd
                have hz3 := hB3.size
                generalize Cq.drew = V3 at *
                clear hd
                refine wpAny_of_held (S := (fun w' => w'.cell? ⟨bf, of + k * 5, none⟩ = some (.int .i64 X.f) ∧ (w'.cell? ⟨V0p.heap.size, 0, none⟩ = some (.int .i64 Z.vn) ∧ w'.cell? ⟨V0p.heap.size, 1, none⟩ = some (.int .i64 Z.vd)) ∧ (w'.cell? ⟨V1q.heap.size, 0, none⟩ = some (.int .i64 Z.sn) ∧ w'.cell? ⟨V1q.heap.size, 1, none⟩ = some (.int .i64 Z.sd)))) _ _ _ _ ?_
                have hS3 := And.intro (hSV _ hB3).1.1 (And.intro n3.all n4.all)
                refine tk0 (v := ?_) (by kernel_rfl) (by kernel_rfl) (by kernel_rfl) (fun _ _ _ h => h) (Or.inl ⟨by rfl, ?_⟩) hS3 ?_
                rotate_left
                · (intro w hSw; (try dsimp only at hSw); go_simp; try with_reducible rfl)
                simp only [Act.put, List.setIfInBounds_toArray, List.set_cons_zero, List.set_cons_succ]
                refine tk1 (v := ?_) (by kernel_rfl) (by kernel_rfl) (by kernel_rfl) (fun _ _ _ h => h) (Or.inl ⟨by rfl, ?_⟩) hS3 ?_
                rotate_left
                · (intro w hSw; (try dsimp only at hSw); go_simp; try with_reducible rfl)
                simp only [Act.put, List.setIfInBounds_toArray, List.set_cons_zero, List.set_cons_succ]
                refine tk2 (v := ?_) (by kernel_rfl) (by kernel_rfl) (by kernel_rfl) (fun _ _ _ h => h) (Or.inl ⟨by rfl, ?_⟩) hS3 ?_
                rotate_left
                · (intro w hSw; (try dsimp only at hSw); go_simp; try with_reducible rfl)
                simp only [Act.put, List.setIfInBounds_toArray, List.set_cons_zero, List.set_cons_succ]
                refine tk3 (v := ?_) (by kernel_rfl) (by kernel_rfl) (by kernel_rfl) (fun _ _ _ h => h) (Or.inl ⟨by rfl, ?_⟩) hS3 ?_
                rotate_left
                · (intro w hSw; (try dsimp only at hSw); go_simp; try with_reducible rfl)
                simp only [Act.put, List.setIfInBounds_toArray, List.set_cons_zero, List.set_cons_succ]
                refine tk4 (v := ?_) (by kernel_rfl) (by kernel_rfl) (by kernel_rfl) (fun _ _ _ h => h) (Or.inl ⟨by rfl, ?_⟩) hS3 ?_
                rotate_left
                · (intro w hSw; (try dsimp only at hSw); go_simp; try with_reducible rfl)
                simp only [Act.put, List.setIfInBounds_toArray, List.set_cons_zero, List.set_cons_succ]
                refine tk5 (v := ?_) (by kernel_rfl) (by kernel_rfl) (by kernel_rfl) (fun _ _ _ h => h) (Or.inl ⟨by rfl, ?_⟩) hS3 ?_
                rotate_left
                · (intro w hSw; (try dsimp only at hSw); go_simp; try with_reducible rfl)
                simp only [Act.put, List.setIfInBounds_toArray, List.set_cons_zero, List.set_cons_succ]
                refine tk6 (v := ?_) (by kernel_rfl) (by kernel_rfl) (by kernel_rfl) (fun _ _ _ h => h) (Or.inl ⟨by rfl, ?_⟩) hS3 ?_
                rotate_left
                · (intro w hSw; (try dsimp only at hSw); go_simp; try with_reducible rfl)
                simp only [Act.put, List.setIfInBounds_toArray, List.set_cons_zero, List.set_cons_succ]
                refine tk7 (v := ?_) (by kernel_rfl) (by kernel_rfl) (by kernel_rfl) (fun _ _ _ h => h) (Or.inl ⟨by rfl, ?_⟩) hS3 ?_
                rotate_left
                · (intro w hSw; (try dsimp only at hSw); go_simp; try with_reducible rfl)
                simp only [Act.put, List.setIfInBounds_toArray, List.set_cons_zero, List.set_cons_succ]
                refine tk8 (v := ?_) (by kernel_rfl) (by kernel_rfl) (by kernel_rfl) (fun _ _ _ h => h) (Or.inl ⟨by rfl, ?_⟩) hS3 ?_
                rotate_left
                · (intro w hSw; (try dsimp only at hSw); go_simp; try with_reducible rfl)
                simp only [Act.put, List.setIfInBounds_toArray, List.set_cons_zero, List.set_cons_succ]
                refine wpAnyH_ready (rs := [9]) (by kernel_rfl) (by simp) (st9 (fun K hK => ?_) AllReadyH.nil)
                go_simp
                have hal := (Below.refl _ V3).alloc (Nat.le_refl _) (.cells #[.int .i64 X.f, .int .i64 Z.vn, .int .i64 Z.vd, .int .i64 Z.sn, .int .i64 Z.sd] 51)
                have hB4 := hB3.trans (hal.mono hB3.size)
                refine hK.out _ _ ?_ (fun hHeld => ?_)
                · exact ⟨(hSV _ hB4).1.1, (n3.below hal).all, (n4.below hal).all⟩
                clear hK K
                try simp only [Act.put, List.setIfInBounds_toArray, List.set_cons_zero, List.set_cons_succ]
                refine wpAnyH_ready (rs := [10]) (by kernel_rfl) (by simp) (st10 (fun K hK => ?_) AllReadyH.nil)
                refine step_appP rfl (.tmp 87) (.tmp 96) rfl w2.heap.size _ _ rfl (hO3.below hal) V3.heap.size 1 Z rfl (by have := OneP.new V3 Z 51; rw [HZ0.out] at this; exact this) (by have := HTL.out; omega) (by simp; omega) (fun v' w' ho hg => ?_)
                have HB5 : Hid (RowKit.Below w2.heap.size w2 w') := hB4.grown hg (by simp; omega) (hO3.below hal).block
                have HO5 : Hid (OwnP w' w2.heap.size v' ((rdG (scT rn) (f.take (k + 1))).map (muR rn rd))) := by show OwnP _ _ _ _; rw [HTk.out]; exact ho
                have n5 : NmB w' (V0p.heap.size) Z.vn Z.vd := (hg.block _ (by have := (Array.getElem?_eq_some_iff.1 (n3.below hal)).1; exact this) (fun e => by have := hrow1p _ e.symm; omega)).trans (n3.below hal)
                have n6 : NmB w' (V1q.heap.size) Z.sn Z.sd := (hg.block _ (by have := (Array.getElem?_eq_some_iff.1 (n4.below hal)).1; exact this) (fun e => by have := hrow1q _ e.symm; omega)).trans (n4.below hal)
                refine hK.out _ _ ?_ (fun hHeld => ?_)
                · exact ⟨(hSV _ HB5.out).1.1, n5.all, n6.all⟩
                clear hK K
                try simp only [Act.put, List.setIfInBounds_toArray, List.set_cons_zero, List.set_cons_succ]
                refine tk11 (v := ?_) (by kernel_rfl) (by kernel_rfl) (by kernel_rfl) (fun _ _ _ h => h) (Or.inl ⟨by rfl, ?_⟩) hHeld ?_
                rotate_left
                · (intro w hSw; (try dsimp only at hSw); go_simp; try with_reducible rfl)
                simp only [Act.put, List.setIfInBounds_toArray, List.set_cons_zero, List.set_cons_succ]
                refine wpAnyH_done (by kernel_rfl) ?_ _
                clear ho hg hal hB4 hO3 hB3 hS3 n3 n4
                obtain ⟨c0, c1⟩ := n5.all
                obtain ⟨c2, c3⟩ := n6.all
                cases c with
                | false =>
                  have E : Hid (RS = ([], 3)) := by show _ = _; rw [HRS.out, if_neg (scale_no HTk.out HCC.out.symm)]
                  go_wp2_with fail
                  refine (rvalid_b [⟨0, Z.vn, Z.vd, Z.sn, Z.sd⟩] false HV.out.1 (some ⟨w'.heap.size + 1, 0, none⟩) (w'.heap.size + 1) 0 1 1 _ (slp_at (w'.alloc (.cells #[.int .i64 0, .int .i64 Z.vn, .int .i64 Z.vd, .int .i64 Z.sn, .int .i64 Z.sd] 51)) (w'.heap.size + 1) (by simp) [⟨0, Z.vn, Z.vd, Z.sn, Z.sd⟩] _ _ 1 rfl rfl (by omega) HV.out.2)).mono ?_
                  rintro _ w6 ⟨rfl, hb⟩
                  have hw6 : RowKit.Below w'.heap.size w' w6 := (((Below.refl _ w').alloc (Nat.le_refl _) _).alloc (by simp) _).trans (hb.mono (by simp; omega))
                  have HB6 := Lib.hid (HB5.out.trans (hw6.mono HB5.out.size))
                  clear c0 c1 c2 c3 hb
                  go_wp2
                  go_ret2
                  rw [E.out]
                  exact OutP.bad (HB2.out.trans (HB6.out.mono (Nat.le_of_lt hz2)))
                | true =>
                  have HA2 : Hid (((rdG (scT rn) (f.take (k + 1))).map (muR rn rd)).all wl = true) := by show _ = _; rw [HTk.out, List.all_append, HA.out, List.all_cons, ← HCC.out]; rfl
                  go_wp2_with fail
                  refine (rvalid_b [⟨0, Z.vn, Z.vd, Z.sn, Z.sd⟩] true HV.out.1 (some ⟨w'.heap.size + 1, 0, none⟩) (w'.heap.size + 1) 0 1 1 _ (slp_at (w'.alloc (.cells #[.int .i64 0, .int .i64 Z.vn, .int .i64 Z.vd, .int .i64 Z.sn, .int .i64 Z.sd] 51)) (w'.heap.size + 1) (by simp) [⟨0, Z.vn, Z.vd, Z.sn, Z.sd⟩] _ _ 1 rfl rfl (by omega) HV.out.2)).mono ?_
                  rintro _ w6 ⟨rfl, hb⟩
                  have hw6 : RowKit.Below w'.heap.size w' w6 := (((Below.refl _ w').alloc (Nat.le_refl _) _).alloc (by simp) _).trans (hb.mono (by simp; omega))
                  have HB6 := Lib.hid (HB5.out.trans (hw6.mono HB5.out.size))
                  clear c0 c1 c2 c3 hb
                  have HO6 := Lib.hid (HO5.out.below hw6)
                  clear hw6
                  go_wp2
                  go_roundg (lf - (k + 1))
                  case measure => omega
                  case rel => exact ⟨k + 1, by go_num, by omega, by omega, HB6.out, HO6.out, HA2.out⟩
              · skip
                go_simp
                have hal := (Below.refl _ V0q).alloc (Nat.le_refl _) (.cells #[.int .i64 0, .int .i64 0] 24)
                refine hK.out _ _ ?_ (fun hHeld => ?_)
                · exact hSV _ (hB0q.trans (hal.mono hB0q.size))
                clear hK K
                try simp only [Act.put, List.setIfInBounds_toArray, List.set_cons_zero, List.set_cons_succ]
                refine wpAnyH_ready (rs := [18]) (by kernel_rfl) (by simp) (st18 (fun K hK => ?_) AllReadyH.nil)
                go_simp
                refine (KR2.out _).mono ?_
                rintro _ V1q ⟨rfl, hb⟩
                go_wp2_with fail
                have hab := hal.trans (hb.mono hal.size)
                have hB1q := hB0q.trans (hab.mono hB0q.size)
                have hO1q := hO0q.below hab
                have nzq := (NmB.new V0q 0 0).below hb
                have np1q := np0q.below hab
                clear hb hal hab
                refine hK.out _ _ ?_ (fun hHeld => ?_)
                · exact hSV _ hB1q
                clear hK K
                try simp only [Act.put, List.setIfInBounds_toArray, List.set_cons_zero, List.set_cons_succ]
                refine wpAnyH_ready (rs := [20]) (by kernel_rfl) (by simp) (st20 (fun K hK => ?_) AllReadyH.nil)
                obtain ⟨c0q, c1q⟩ := nzq.all
                obtain ⟨f0q, f1q⟩ := nzq.fz
                go_simp
                have nq := nzq.put (Z.sn) (Z.sd)
                have hB2q : RowKit.Below w2.heap.size w2 ((V1q.setCell ⟨V0q.heap.size, 0, none⟩ (.int .i64 (Z.sn))).setCell ⟨V0q.heap.size, 1, none⟩ (.int .i64 (Z.sd))) := (hB1q.setCell hzq _).setCell hzq _
                have hO2q := hO1q.other nzq (by decide) (fun k hk => put2_other V1q (Z.sn) (Z.sd) hk)
                have np2q : NmB _ (V0p.heap.size) (Z.vn) (Z.vd) := (put2_other V1q (Z.sn) (Z.sd) (show V0p.heap.size ≠ V0q.heap.size by have := lnpq; omega)).trans np1q
                refine hK.out _ _ ?_ (fun hHeld => ?_)
                · exact hSV _ hB2q
                clear hK K
                try simp only [Act.put, List.setIfInBounds_toArray, List.set_cons_zero, List.set_cons_succ]
                refine wpAnyH_done (by kernel_rfl) ?_ _
                have hrow1q := hrowq
                have hz1q := hzq
                obtain ⟨Cq, hCq⟩ : ∃ C, C = (V1q.setCell ⟨V0q.heap.size, 0, none⟩ (.int .i64 (Z.sn))).setCell ⟨V0q.heap.size, 1, none⟩ (.int .i64 (Z.sd)) := ⟨_, rfl⟩
                rw [← hCq] at nq hB2q hO2q np2q ⊢
                clear hCq c0q c1q f0q f1q
                go_wp2_with fail
                refine wp_region_dr mixed ?_
                have hd : RowKit.Below Cq.heap.size Cq Cq.drew := (Below.refl _ Cq).drew
                have hB3 := hB2q.trans (hd.mono hB2q.size)
                have hO3 := hO2q.below hd
                have n3 := np2q.below hd
                have n4 := nq.below hd
                have hz3 := hB3.size
                generalize Cq.drew = V3 at *
                clear hd
                refine wpAny_of_held (S := (fun w' => w'.cell? ⟨bf, of + k * 5, none⟩ = some (.int .i64 X.f) ∧ (w'.cell? ⟨V0p.heap.size, 0, none⟩ = some (.int .i64 Z.vn) ∧ w'.cell? ⟨V0p.heap.size, 1, none⟩ = some (.int .i64 Z.vd)) ∧ (w'.cell? ⟨V0q.heap.size, 0, none⟩ = some (.int .i64 Z.sn) ∧ w'.cell? ⟨V0q.heap.size, 1, none⟩ = some (.int .i64 Z.sd)))) _ _ _ _ ?_
                have hS3 := And.intro (hSV _ hB3).1.1 (And.intro n3.all n4.all)
                refine tk0 (v := ?_) (by kernel_rfl) (by kernel_rfl) (by kernel_rfl) (fun _ _ _ h => h) (Or.inl ⟨by rfl, ?_⟩) hS3 ?_
                rotate_left
                · (intro w hSw; (try dsimp only at hSw); go_simp; try with_reducible rfl)
                simp only [Act.put, List.setIfInBounds_toArray, List.set_cons_zero, List.set_cons_succ]
                refine tk1 (v := ?_) (by kernel_rfl) (by kernel_rfl) (by kernel_rfl) (fun _ _ _ h => h) (Or.inl ⟨by rfl, ?_⟩) hS3 ?_
                rotate_left
                · (intro w hSw; (try dsimp only at hSw); go_simp; try with_reducible rfl)
                simp only [Act.put, List.setIfInBounds_toArray, List.set_cons_zero, List.set_cons_succ]
                refine tk2 (v := ?_) (by kernel_rfl) (by kernel_rfl) (by kernel_rfl) (fun _ _ _ h => h) (Or.inl ⟨by rfl, ?_⟩) hS3 ?_
                rotate_left
                · (intro w hSw; (try dsimp only at hSw); go_simp; try with_reducible rfl)
                simp only [Act.put, List.setIfInBounds_toArray, List.set_cons_zero, List.set_cons_succ]
                refine tk3 (v := ?_) (by kernel_rfl) (by kernel_rfl) (by kernel_rfl) (fun _ _ _ h => h) (Or.inl ⟨by rfl, ?_⟩) hS3 ?_
                rotate_left
                · (intro w hSw; (try dsimp only at hSw); go_simp; try with_reducible rfl)
                simp only [Act.put, List.setIfInBounds_toArray, List.set_cons_zero, List.set_cons_succ]
                refine tk4 (v := ?_) (by kernel_rfl) (by kernel_rfl) (by kernel_rfl) (fun _ _ _ h => h) (Or.inl ⟨by rfl, ?_⟩) hS3 ?_
                rotate_left
                · (intro w hSw; (try dsimp only at hSw); go_simp; try with_reducible rfl)
                simp only [Act.put, List.setIfInBounds_toArray, List.set_cons_zero, List.set_cons_succ]
                refine tk5 (v := ?_) (by kernel_rfl) (by kernel_rfl) (by kernel_rfl) (fun _ _ _ h => h) (Or.inl ⟨by rfl, ?_⟩) hS3 ?_
                rotate_left
                · (intro w hSw; (try dsimp only at hSw); go_simp; try with_reducible rfl)
                simp only [Act.put, List.setIfInBounds_toArray, List.set_cons_zero, List.set_cons_succ]
                refine tk6 (v := ?_) (by kernel_rfl) (by kernel_rfl) (by kernel_rfl) (fun _ _ _ h => h) (Or.inl ⟨by rfl, ?_⟩) hS3 ?_
                rotate_left
                · (intro w hSw; (try dsimp only at hSw); go_simp; try with_reducible rfl)
                simp only [Act.put, List.setIfInBounds_toArray, List.set_cons_zero, List.set_cons_succ]
                refine tk7 (v := ?_) (by kernel_rfl) (by kernel_rfl) (by kernel_rfl) (fun _ _ _ h => h) (Or.inl ⟨by rfl, ?_⟩) hS3 ?_
                rotate_left
                · (intro w hSw; (try dsimp only at hSw); go_simp; try with_reducible rfl)
                simp only [Act.put, List.setIfInBounds_toArray, List.set_cons_zero, List.set_cons_succ]
                refine tk8 (v := ?_) (by kernel_rfl) (by kernel_rfl) (by kernel_rfl) (fun _ _ _ h => h) (Or.inl ⟨by rfl, ?_⟩) hS3 ?_
                rotate_left
                · (intro w hSw; (try dsimp only at hSw); go_simp; try with_reducible rfl)
                simp only [Act.put, List.setIfInBounds_toArray, List.set_cons_zero, List.set_cons_succ]
                refine wpAnyH_ready (rs := [9]) (by kernel_rfl) (by simp) (st9 (fun K hK => ?_) AllReadyH.nil)
                go_simp
                have hal := (Below.refl _ V3).alloc (Nat.le_refl _) (.cells #[.int .i64 X.f, .int .i64 Z.vn, .int .i64 Z.vd, .int .i64 Z.sn, .int .i64 Z.sd] 51)
                have hB4 := hB3.trans (hal.mono hB3.size)
                refine hK.out _ _ ?_ (fun hHeld => ?_)
                · exact ⟨(hSV _ hB4).1.1, (n3.below hal).all, (n4.below hal).all⟩
                clear hK K
                try simp only [Act.put, List.setIfInBounds_toArray, List.set_cons_zero, List.set_cons_succ]
                refine wpAnyH_ready (rs := [10]) (by kernel_rfl) (by simp) (st10 (fun K hK => ?_) AllReadyH.nil)
                refine step_appP rfl (.tmp 87) (.tmp 96) rfl w2.heap.size _ _ rfl (hO3.below hal) V3.heap.size 1 Z rfl (by have := OneP.new V3 Z 51; rw [HZ0.out] at this; exact this) (by have := HTL.out; omega) (by simp; omega) (fun v' w' ho hg => ?_)
                have HB5 : Hid (RowKit.Below w2.heap.size w2 w') := hB4.grown hg (by simp; omega) (hO3.below hal).block
                have HO5 : Hid (OwnP w' w2.heap.size v' ((rdG (scT rn) (f.take (k + 1))).map (muR rn rd))) := by show OwnP _ _ _ _; rw [HTk.out]; exact ho
                have n5 : NmB w' (V0p.heap.size) Z.vn Z.vd := (hg.block _ (by have := (Array.getElem?_eq_some_iff.1 (n3.below hal)).1; exact this) (fun e => by have := hrow1p _ e.symm; omega)).trans (n3.below hal)
                have n6 : NmB w' (V0q.heap.size) Z.sn Z.sd := (hg.block _ (by have := (Array.getElem?_eq_some_iff.1 (n4.below hal)).1; exact this) (fun e => by have := hrow1q _ e.symm; omega)).trans (n4.below hal)
                refine hK.out _ _ ?_ (fun hHeld => ?_)
                · exact ⟨(hSV _ HB5.out).1.1, n5.all, n6.all⟩
                clear hK K
                try simp only [Act.put, List.setIfInBounds_toArray, List.set_cons_zero, List.set_cons_succ]
                refine tk11 (v := ?_) (by kernel_rfl) (by kernel_rfl) (by kernel_rfl) (fun _ _ _ h => h) (Or.inl ⟨by rfl, ?_⟩) hHeld ?_
                rotate_left
                · (intro w hSw; (try dsimp only at hSw); go_simp; try with_reducible rfl)
                simp only [Act.put, List.setIfInBounds_toArray, List.set_cons_zero, List.set_cons_succ]
                refine wpAnyH_done (by kernel_rfl) ?_ _
                clear ho hg hal hB4 hO3 hB3 hS3 n3 n4
                obtain ⟨c0, c1⟩ := n5.all
                obtain ⟨c2, c3⟩ := n6.all
                cases c with
                | false =>
                  have E : Hid (RS = ([], 3)) := by show _ = _; rw [HRS.out, if_neg (scale_no HTk.out HCC.out.symm)]
                  go_wp2_with fail
                  refine (rvalid_b [⟨0, Z.vn, Z.vd, Z.sn, Z.sd⟩] false HV.out.1 (some ⟨w'.heap.size + 1, 0, none⟩) (w'.heap.size + 1) 0 1 1 _ (slp_at (w'.alloc (.cells #[.int .i64 0, .int .i64 Z.vn, .int .i64 Z.vd, .int .i64 Z.sn, .int .i64 Z.sd] 51)) (w'.heap.size + 1) (by simp) [⟨0, Z.vn, Z.vd, Z.sn, Z.sd⟩] _ _ 1 rfl rfl (by omega) HV.out.2)).mono ?_
                  rintro _ w6 ⟨rfl, hb⟩
                  have hw6 : RowKit.Below w'.heap.size w' w6 := (((Below.refl _ w').alloc (Nat.le_refl _) _).alloc (by simp) _).trans (hb.mono (by simp; omega))
                  have HB6 := Lib.hid (HB5.out.trans (hw6.mono HB5.out.size))
                  clear c0 c1 c2 c3 hb
                  go_wp2
                  go_ret2
                  rw [E.out]
                  exact OutP.bad (HB2.out.trans (HB6.out.mono (Nat.le_of_lt hz2)))
                | true =>
                  have HA2 : Hid (((rdG (scT rn) (f.take (k + 1))).map (muR rn rd)).all wl = true) := by show _ = _; rw [HTk.out, List.all_append, HA.out, List.all_cons, ← HCC.out]; rfl
                  go_wp2_with fail
                  refine (rvalid_b [⟨0, Z.vn, Z.vd, Z.sn, Z.sd⟩] true HV.out.1 (some ⟨w'.heap.size + 1, 0, none⟩) (w'.heap.size + 1) 0 1 1 _ (slp_at (w'.alloc (.cells #[.int .i64 0, .int .i64 Z.vn, .int .i64 Z.vd, .int .i64 Z.sn, .int .i64 Z.sd] 51)) (w'.heap.size + 1) (by simp) [⟨0, Z.vn, Z.vd, Z.sn, Z.sd⟩] _ _ 1 rfl rfl (by omega) HV.out.2)).mono ?_
                  rintro _ w6 ⟨rfl, hb⟩
                  have hw6 : RowKit.Below w'.heap.size w' w6 := (((Below.refl _ w').alloc (Nat.le_refl _) _).alloc (by simp) _).trans (hb.mono (by simp; omega))
                  have HB6 := Lib.hid (HB5.out.trans (hw6.mono HB5.out.size))
                  clear c0 c1 c2 c3 hb
                  have HO6 := Lib.hid (HO5.out.below hw6)
                  clear hw6
                  go_wp2
                  go_roundg (lf - (k + 1))
                  case measure => omega
                  case rel => exact ⟨k + 1, by go_num, by omega, by omega, HB6.out, HO6.out, HA2.out⟩
      · have hk0z : ¬ (0 : Int) < (k : Int) := by omega
        have hT : (rdG (scT rn) (f.take (k + 1))).map (muR rn rd) = (rdG (scT rn) (f.take k)).map (muR rn rd) ++ [Z] := by
          have ek : k = 0 := by omega
          subst ek
          rw [rdG_zero hkl, HZ.out, HX.out]
          rfl
        have HTk := Lib.hid hT
        clear hT
        have hSV : ∀ V, RowKit.Below w2.heap.size w2 V → (V.cell? ⟨bf, of + k * 5, none⟩ = some (.int .i64 X.f) ∧ V.cell? ⟨bf, of + k * 5 + 1, none⟩ = some (.int .i64 X.vn) ∧ V.cell? ⟨bf, of + k * 5 + 2, none⟩ = some (.int .i64 X.vd) ∧ V.cell? ⟨bf, of + k * 5 + 3, none⟩ = some (.int .i64 X.sn) ∧ V.cell? ⟨bf, of + k * 5 + 4, none⟩ = some (.int .i64 X.sd)) ∧ V.cell? ⟨w.heap.size, 0, none⟩ = some (.int .i64 rn) ∧ V.cell? ⟨w.heap.size, 1, none⟩ = some (.int .i64 rd) := fun V h => ⟨by
          have := (HFS.out.below (HB2.out.trans (h.mono (Nat.le_of_lt hz2)))).cells k hkl
          rw [← HX.out] at this
          exact this, (HT2.out.below hz2 h).all⟩
        go_wp2_with fail
        refine wp_region_dr mixed ?_
        have hd : RowKit.Below wr.heap.size wr wr.drew := (Below.refl _ wr).drew
        have hB0p := HBr.out.trans (hd.mono HBr.out.size)
        have hO0p := HO.out.below hd
        have hrowp := hO0p.lt
        have hzp := hB0p.size
        generalize wr.drew = V0p at *
        clear hd
        refine wpAny_of_held (S := (fun w' => (w'.cell? ⟨bf, of + k * 5, none⟩ = some (.int .i64 X.f) ∧ w'.cell? ⟨bf, of + k * 5 + 1, none⟩ = some (.int .i64 X.vn) ∧ w'.cell? ⟨bf, of + k * 5 + 2, none⟩ = some (.int .i64 X.vd) ∧ w'.cell? ⟨bf, of + k * 5 + 3, none⟩ = some (.int .i64 X.sn) ∧ w'.cell? ⟨bf, of + k * 5 + 4, none⟩ = some (.int .i64 X.sd)) ∧ w'.cell? ⟨w.heap.size, 0, none⟩ = some (.int .i64 rn) ∧ w'.cell? ⟨w.heap.size, 1, none⟩ = some (.int .i64 rd))) _ _ _ _ ?_
        have hS0p := hSV _ hB0p
        refine tk0 (v := ?_) (by kernel_rfl) (by kernel_rfl) (by kernel_rfl) (fun _ _ _ h => h) (Or.inl ⟨by rfl, ?_⟩) hS0p ?_
        rotate_left
        · (intro w hSw; (try dsimp only at hSw); go_simp; try with_reducible rfl)
        simp only [Act.put, List.setIfInBounds_toArray, List.set_cons_zero, List.set_cons_succ]
        refine tk1 (v := ?_) (by kernel_rfl) (by kernel_rfl) (by kernel_rfl) (fun _ _ _ h => h) (Or.inl ⟨by rfl, ?_⟩) hS0p ?_
        rotate_left
        · (intro w hSw; (try dsimp only at hSw); go_simp; try with_reducible rfl)
        simp only [Act.put, List.setIfInBounds_toArray, List.set_cons_zero, List.set_cons_succ]
        refine tk2 (v := ?_) (by kernel_rfl) (by kernel_rfl) (by kernel_rfl) (fun _ _ _ h => h) (Or.inl ⟨by rfl, ?_⟩) hS0p ?_
        rotate_left
        · (intro w hSw; (try dsimp only at hSw); go_simp; try with_reducible rfl)
        simp only [Act.put, List.setIfInBounds_toArray, List.set_cons_zero, List.set_cons_succ]
        refine tk3 (v := ?_) (by kernel_rfl) (by kernel_rfl) (by kernel_rfl) (fun _ _ _ h => h) (Or.inl ⟨by rfl, ?_⟩) hS0p ?_
        rotate_left
        · (intro w hSw; (try dsimp only at hSw); go_simp; try with_reducible rfl)
        simp only [Act.put, List.setIfInBounds_toArray, List.set_cons_zero, List.set_cons_succ]
        refine tk4 (v := ?_) (by kernel_rfl) (by kernel_rfl) (by kernel_rfl) (fun _ _ _ h => h) (Or.inl ⟨by rfl, ?_⟩) hS0p ?_
        rotate_left
        · (intro w hSw; (try dsimp only at hSw); go_simp; try with_reducible rfl)
        simp only [Act.put, List.setIfInBounds_toArray, List.set_cons_zero, List.set_cons_succ]
        refine tk5 (v := ?_) (by kernel_rfl) (by kernel_rfl) (by kernel_rfl) (fun _ _ _ h => h) (Or.inl ⟨by rfl, ?_⟩) hS0p ?_
        rotate_left
        · (intro w hSw; (try dsimp only at hSw); go_simp; try with_reducible rfl)
        simp only [Act.put, List.setIfInBounds_toArray, List.set_cons_zero, List.set_cons_succ]
        refine tk6 (v := ?_) (by kernel_rfl) (by kernel_rfl) (by kernel_rfl) (fun _ _ _ h => h) (Or.inl ⟨by rfl, ?_⟩) hS0p ?_
        rotate_left
        · (intro w hSw; (try dsimp only at hSw); go_simp; try with_reducible rfl)
        simp only [Act.put, List.setIfInBounds_toArray, List.set_cons_zero, List.set_cons_succ]
        refine tk7 (v := ?_) (by kernel_rfl) (by kernel_rfl) (by kernel_rfl) (fun _ _ _ h => h) (Or.inl ⟨by rfl, ?_⟩) hS0p ?_
        rotate_left
        · (intro w hSw; (try dsimp only at hSw); go_simp; try with_reducible rfl)
        simp only [Act.put, List.setIfInBounds_toArray, List.set_cons_zero, List.set_cons_succ]
        refine tk8 (v := ?_) (by kernel_rfl) (by kernel_rfl) (by kernel_rfl) (fun _ _ _ h => h) (Or.inl ⟨by rfl, ?_⟩) hS0p ?_
        rotate_left
        · (intro w hSw; (try dsimp only at hSw); go_simp; try with_reducible rfl)
        simp only [Act.put, List.setIfInBounds_toArray, List.set_cons_zero, List.set_cons_succ]
        refine tk9 (v := ?_) (by kernel_rfl) (by kernel_rfl) (by kernel_rfl) (fun _ _ _ h => h) (Or.inl ⟨by rfl, ?_⟩) hS0p ?_
        rotate_left
        · (intro w hSw; (try dsimp only at hSw); go_simp; try with_reducible rfl)
        simp only [Act.put, List.setIfInBounds_toArray, List.set_cons_zero, List.set_cons_succ]
        refine tk10 (v := ?_) (by kernel_rfl) (by kernel_rfl) (by kernel_rfl) (fun _ _ _ h => h) (Or.inl ⟨by rfl, ?_⟩) hS0p ?_
        rotate_left
        · (intro w hSw; (try dsimp only at hSw); go_simp; try with_reducible rfl)
        simp only [Act.put, List.setIfInBounds_toArray, List.set_cons_zero, List.set_cons_succ]
        refine tk11 (v := ?_) (by kernel_rfl) (by kernel_rfl) (by kernel_rfl) (fun _ _ _ h => h) (Or.inl ⟨by rfl, ?_⟩) hS0p ?_
        rotate_left
        · (intro w hSw; (try dsimp only at hSw); go_simp; try with_reducible rfl)
        simp only [Act.put, List.setIfInBounds_toArray, List.set_cons_zero, List.set_cons_succ]
        refine tk12 (v := ?_) (by kernel_rfl) (by kernel_rfl) (by kernel_rfl) (fun _ _ _ h => h) (Or.inl ⟨by rfl, ?_⟩) hS0p ?_
        rotate_left
        · (intro w hSw; (try dsimp only at hSw); go_simp; try with_reducible rfl)
        simp only [Act.put, List.setIfInBounds_toArray, List.set_cons_zero, List.set_cons_succ]
        refine tk13 (v := ?_) (by kernel_rfl) (by kernel_rfl) (by kernel_rfl) (fun _ _ _ h => h) (Or.inl ⟨by rfl, ?_⟩) hS0p ?_
        rotate_left
        · (intro w hSw; (try dsimp only at hSw); go_simp; try with_reducible rfl)
        simp only [Act.put, List.setIfInBounds_toArray, List.set_cons_zero, List.set_cons_succ]
        refine tk14 (v := ?_) (by kernel_rfl) (by kernel_rfl) (by kernel_rfl) (fun _ _ _ h => h) (Or.inl ⟨by rfl, ?_⟩) hS0p ?_
        rotate_left
        · (intro w hSw; (try dsimp only at hSw); go_simp; try with_reducible rfl)
        simp only [Act.put, List.setIfInBounds_toArray, List.set_cons_zero, List.set_cons_succ]
        refine tk15 (v := ?_) (by kernel_rfl) (by kernel_rfl) (by kernel_rfl) (fun _ _ _ h => h) (Or.inl ⟨by rfl, ?_⟩) hS0p ?_
        rotate_left
        · (intro w hSw; (try dsimp only at hSw); go_simp; try with_reducible rfl)
        simp only [Act.put, List.setIfInBounds_toArray, List.set_cons_zero, List.set_cons_succ]
        refine tk16 (v := ?_) (by kernel_rfl) (by kernel_rfl) (by kernel_rfl) (fun _ _ _ h => h) (Or.inl ⟨by rfl, ?_⟩) hS0p ?_
        rotate_left
        · (intro w hSw; (try dsimp only at hSw); go_simp; try with_reducible rfl)
        simp only [Act.put, List.setIfInBounds_toArray, List.set_cons_zero, List.set_cons_succ]
        refine tk17 (v := ?_) (by kernel_rfl) (by kernel_rfl) (by kernel_rfl) (fun _ _ _ h => h) (Or.inl ⟨by rfl, ?_⟩) hS0p ?_
        rotate_left
        · (intro w hSw; (try dsimp only at hSw); go_simp; try with_reducible rfl)
        simp only [Act.put, List.setIfInBounds_toArray, List.set_cons_zero, List.set_cons_succ]
        refine wpAnyH_ready (rs := [18, 19]) (by kernel_rfl) (by simp) (st18 (fun K hK => ?_) (st19 (fun K hK => ?_) AllReadyH.nil))
        · skip
          go_simp
          refine (KR1.out _).mono ?_
          rintro _ V1p ⟨rfl, hb⟩
          go_wp2_with fail
          have hB1p := hB0p.trans (hb.mono hB0p.size)
          have hO1p := hO0p.below hb
          have hrow1p := hO1p.lt
          clear hb
          refine hK.out _ _ ?_ (fun hHeld => ?_)
          · exact hSV _ hB1p
          clear hK K
          try simp only [Act.put, List.setIfInBounds_toArray, List.set_cons_zero, List.set_cons_succ]
          refine wpAnyH_ready (rs := [19]) (by kernel_rfl) (by simp) (st19 (fun K hK => ?_) AllReadyH.nil)
          go_simp
          have hal := (Below.refl _ V1p).alloc (Nat.le_refl _) (.cells #[.int .i64 0, .int .i64 0] 24)
          refine hK.out _ _ ?_ (fun hHeld => ?_)
          · exact hSV _ (hB1p.trans (hal.mono hB1p.size))
          clear hK K
          try simp only [Act.put, List.setIfInBounds_toArray, List.set_cons_zero, List.set_cons_succ]
          clear hal
          refine wpAnyH_ready (rs := [20]) (by kernel_rfl) (by simp) (st20 (fun K hK => ?_) AllReadyH.nil)
          go_simp
          have ha := (Below.refl _ V1p).alloc (Nat.le_refl _) (.cells #[.int .i64 Z.vn, .int .i64 Z.vd] 24)
          refine hK.out _ _ ?_ (fun hHeld => ?_)
          · exact hSV _ (hB1p.trans (ha.mono hB1p.size))
          clear hK K
          try simp only [Act.put, List.setIfInBounds_toArray, List.set_cons_zero, List.set_cons_succ]
          refine wpAnyH_done (by kernel_rfl) ?_ _
          have np := NmB.new V1p (Z.vn) (Z.vd)
          have hB2p := hB1p.trans (ha.mono hB1p.size)
          have hO2p := hO1p.below ha
          have hz1p := hB1p.size
          obtain ⟨Cp, hCp⟩ : ∃ C, C = V1p.alloc (.cells #[.int .i64 Z.vn, .int .i64 Z.vd] 24) := ⟨_, rfl⟩
          rw [← hCp] at np hB2p hO2p  ⊢
          clear hCp ha
          go_wp2_with fail
          refine wp_region_dr mixed ?_
          have hd : RowKit.Below Cp.heap.size Cp Cp.drew := (Below.refl _ Cp).drew
          have hB0q := hB2p.trans (hd.mono hB2p.size)
          have hO0q := hO2p.below hd
          have np0q := np.below hd
          have hrowq := hO0q.lt
          have hzq := hB0q.size
          have lnpq := (Array.getElem?_eq_some_iff.1 np0q).1
          generalize Cp.drew = V0q at *
          clear hd
          refine wpAny_of_held (S := (fun w' => (w'.cell? ⟨bf, of + k * 5, none⟩ = some (.int .i64 X.f) ∧ w'.cell? ⟨bf, of + k * 5 + 1, none⟩ = some (.int .i64 X.vn) ∧ w'.cell? ⟨bf, of + k * 5 + 2, none⟩ = some (.int .i64 X.vd) ∧ w'.cell? ⟨bf, of + k * 5 + 3, none⟩ = some (.int .i64 X.sn) ∧ w'.cell? ⟨bf, of + k * 5 + 4, none⟩ = some (.int .i64 X.sd)) ∧ w'.cell? ⟨w.heap.size, 0, none⟩ = some (.int .i64 rn) ∧ w'.cell? ⟨w.heap.size, 1, none⟩ = some (.int .i64 rd))) _ _ _ _ ?_
          have hS0q := hSV _ hB0q
          refine tk0 (v := ?_) (by kernel_rfl) (by kernel_rfl) (by kernel_rfl) (fun _ _ _ h => h) (Or.inl ⟨by rfl, ?_⟩) hS0q ?_
          rotate_left
          · (intro w hSw; (try dsimp only at hSw); go_simp; try with_reducible rfl)
          simp only [Act.put, List.setIfInBounds_toArray, List.set_cons_zero, List.set_cons_succ]
          refine tk1 (v := ?_) (by kernel_rfl) (by kernel_rfl) (by kernel_rfl) (fun _ _ _ h => h) (Or.inl ⟨by rfl, ?_⟩) hS0q ?_
          rotate_left
          · (intro w hSw; (try dsimp only at hSw); go_simp; try with_reducible rfl)
          simp only [Act.put, List.setIfInBounds_toArray, List.set_cons_zero, List.set_cons_succ]
          refine tk2 (v := ?_) (by kernel_rfl) (by kernel_rfl) (by kernel_rfl) (fun _ _ _ h => h) (Or.inl ⟨by rfl, ?_⟩) hS0q ?_
          rotate_left
          · (intro w hSw; (try dsimp only at hSw); go_simp; try with_reducible rfl)
          simp only [Act.put, List.setIfInBounds_toArray, List.set_cons_zero, List.set_cons_succ]
          refine tk3 (v := ?_) (by kernel_rfl) (by kernel_rfl) (by kernel_rfl) (fun _ _ _ h => h) (Or.inl ⟨by rfl, ?_⟩) hS0q ?_
          rotate_left
          · (intro w hSw; (try dsimp only at hSw); go_simp; try with_reducible rfl)
          simp only [Act.put, List.setIfInBounds_toArray, List.set_cons_zero, List.set_cons_succ]
          refine tk4 (v := ?_) (by kernel_rfl) (by kernel_rfl) (by kernel_rfl) (fun _ _ _ h => h) (Or.inl ⟨by rfl, ?_⟩) hS0q ?_
          rotate_left
          · (intro w hSw; (try dsimp only at hSw); go_simp; try with_reducible rfl)
          simp only [Act.put, List.setIfInBounds_toArray, List.set_cons_zero, List.set_cons_succ]
          refine tk5 (v := ?_) (by kernel_rfl) (by kernel_rfl) (by kernel_rfl) (fun _ _ _ h => h) (Or.inl ⟨by rfl, ?_⟩) hS0q ?_
          rotate_left
          · (intro w hSw; (try dsimp only at hSw); go_simp; try with_reducible rfl)
          simp only [Act.put, List.setIfInBounds_toArray, List.set_cons_zero, List.set_cons_succ]
          refine tk6 (v := ?_) (by kernel_rfl) (by kernel_rfl) (by kernel_rfl) (fun _ _ _ h => h) (Or.inl ⟨by rfl, ?_⟩) hS0q ?_
          rotate_left
          · (intro w hSw; (try dsimp only at hSw); go_simp; try with_reducible rfl)
          simp only [Act.put, List.setIfInBounds_toArray, List.set_cons_zero, List.set_cons_succ]
          refine tk7 (v := ?_) (by kernel_rfl) (by kernel_rfl) (by kernel_rfl) (fun _ _ _ h => h) (Or.inl ⟨by rfl, ?_⟩) hS0q ?_
          rotate_left
          · (intro w hSw; (try dsimp only at hSw); go_simp; try with_reducible rfl)
          simp only [Act.put, List.setIfInBounds_toArray, List.set_cons_zero, List.set_cons_succ]
          refine tk8 (v := ?_) (by kernel_rfl) (by kernel_rfl) (by kernel_rfl) (fun _ _ _ h => h) (Or.inl ⟨by rfl, ?_⟩) hS0q ?_
          rotate_left
          · (intro w hSw; (try dsimp only at hSw); go_simp; try with_reducible rfl)
          simp only [Act.put, List.setIfInBounds_toArray, List.set_cons_zero, List.set_cons_succ]
          refine tk9 (v := ?_) (by kernel_rfl) (by kernel_rfl) (by kernel_rfl) (fun _ _ _ h => h) (Or.inl ⟨by rfl, ?_⟩) hS0q ?_
          rotate_left
          · (intro w hSw; (try dsimp only at hSw); go_simp; try with_reducible rfl)
          simp only [Act.put, List.setIfInBounds_toArray, List.set_cons_zero, List.set_cons_succ]
          refine tk10 (v := ?_) (by kernel_rfl) (by kernel_rfl) (by kernel_rfl) (fun _ _ _ h => h) (Or.inl ⟨by rfl, ?_⟩) hS0q ?_
          rotate_left
          · (intro w hSw; (try dsimp only at hSw); go_simp; try with_reducible rfl)
          simp only [Act.put, List.setIfInBounds_toArray, List.set_cons_zero, List.set_cons_succ]
          refine tk11 (v := ?_) (by kernel_rfl) (by kernel_rfl) (by kernel_rfl) (fun _ _ _ h => h) (Or.inl ⟨by rfl, ?_⟩) hS0q ?_
          rotate_left
          · (intro w hSw; (try dsimp only at hSw); go_simp; try with_reducible rfl)
          simp only [Act.put, List.setIfInBounds_toArray, List.set_cons_zero, List.set_cons_succ]
          refine tk12 (v := ?_) (by kernel_rfl) (by kernel_rfl) (by kernel_rfl) (fun _ _ _ h => h) (Or.inl ⟨by rfl, ?_⟩) hS0q ?_
          rotate_left
          · (intro w hSw; (try dsimp only at hSw); go_simp; try with_reducible rfl)
          simp only [Act.put, List.setIfInBounds_toArray, List.set_cons_zero, List.set_cons_succ]
          refine tk13 (v := ?_) (by kernel_rfl) (by kernel_rfl) (by kernel_rfl) (fun _ _ _ h => h) (Or.inl ⟨by rfl, ?_⟩) hS0q ?_
          rotate_left
          · (intro w hSw; (try dsimp only at hSw); go_simp; try with_reducible rfl)
          simp only [Act.put, List.setIfInBounds_toArray, List.set_cons_zero, List.set_cons_succ]
          refine tk14 (v := ?_) (by kernel_rfl) (by kernel_rfl) (by kernel_rfl) (fun _ _ _ h => h) (Or.inl ⟨by rfl, ?_⟩) hS0q ?_
          rotate_left
          · (intro w hSw; (try dsimp only at hSw); go_simp; try with_reducible rfl)
          simp only [Act.put, List.setIfInBounds_toArray, List.set_cons_zero, List.set_cons_succ]
          refine tk15 (v := ?_) (by kernel_rfl) (by kernel_rfl) (by kernel_rfl) (fun _ _ _ h => h) (Or.inl ⟨by rfl, ?_⟩) hS0q ?_
          rotate_left
          · (intro w hSw; (try dsimp only at hSw); go_simp; try with_reducible rfl)
          simp only [Act.put, List.setIfInBounds_toArray, List.set_cons_zero, List.set_cons_succ]
          refine tk16 (v := ?_) (by kernel_rfl) (by kernel_rfl) (by kernel_rfl) (fun _ _ _ h => h) (Or.inl ⟨by rfl, ?_⟩) hS0q ?_
          rotate_left
          · (intro w hSw; (try dsimp only at hSw); go_simp; try with_reducible rfl)
          simp only [Act.put, List.setIfInBounds_toArray, List.set_cons_zero, List.set_cons_succ]
          refine tk17 (v := ?_) (by kernel_rfl) (by kernel_rfl) (by kernel_rfl) (fun _ _ _ h => h) (Or.inl ⟨by rfl, ?_⟩) hS0q ?_
          rotate_left
          · (intro w hSw; (try dsimp only at hSw); go_simp; try with_reducible rfl)
          simp only [Act.put, List.setIfInBounds_toArray, List.set_cons_zero, List.set_cons_succ]
          refine wpAnyH_ready (rs := [18, 19]) (by kernel_rfl) (by simp) (st18 (fun K hK => ?_) (st19 (fun K hK => ?_) AllReadyH.nil))
          · skip
            go_simp
            refine (KR2.out _).mono ?_
            rintro _ V1q ⟨rfl, hb⟩
            go_wp2_with fail
            have hB1q := hB0q.trans (hb.mono hB0q.size)
            have hO1q := hO0q.below hb
            have np1q := np0q.below hb
            have hrow1q := hO1q.lt
            clear hb
            refine hK.out _ _ ?_ (fun hHeld => ?_)
            · exact hSV _ hB1q
            clear hK K
            try simp only [Act.put, List.setIfInBounds_toArray, List.set_cons_zero, List.set_cons_succ]
            refine wpAnyH_ready (rs := [19]) (by kernel_rfl) (by simp) (st19 (fun K hK => ?_) AllReadyH.nil)
            go_simp
            have hal := (Below.refl _ V1q).alloc (Nat.le_refl _) (.cells #[.int .i64 0, .int .i64 0] 24)
            refine hK.out _ _ ?_ (fun hHeld => ?_)
            · exact hSV _ (hB1q.trans (hal.mono hB1q.size))
            clear hK K
            try simp only [Act.put, List.setIfInBounds_toArray, List.set_cons_zero, List.set_cons_succ]
            clear hal
            refine wpAnyH_ready (rs := [20]) (by kernel_rfl) (by simp) (st20 (fun K hK => ?_) AllReadyH.nil)
            go_simp
            have ha := (Below.refl _ V1q).alloc (Nat.le_refl _) (.cells #[.int .i64 Z.sn, .int .i64 Z.sd] 24)
            refine hK.out _ _ ?_ (fun hHeld => ?_)
            · exact hSV _ (hB1q.trans (ha.mono hB1q.size))
            clear hK K
            try simp only [Act.put, List.setIfInBounds_toArray, List.set_cons_zero, List.set_cons_succ]
            refine wpAnyH_done (by kernel_rfl) ?_ _
            have nq := NmB.new V1q (Z.sn) (Z.sd)
            have hB2q := hB1q.trans (ha.mono hB1q.size)
            have hO2q := hO1q.below ha
            have np2q := np1q.below ha
            have hz1q := hB1q.size
            obtain ⟨Cq, hCq⟩ : ∃ C, C = V1q.alloc (.cells #[.int .i64 Z.sn, .int .i64 Z.sd] 24) := ⟨_, rfl⟩
            rw [← hCq] at nq hB2q hO2q np2q ⊢
            clear hCq ha
            go_wp2_with fail
            refine wp_region_dr mixed ?_
            have hd : RowKit.Below Cq.heap.size Cq Cq.drew := (Below.refl _ Cq).drew
            have hB3 := hB2q.trans (hd.mono hB2q.size)
            have hO3 := hO2q.below hd
            have n3 := np2q.below hd
            have n4 := nq.below hd
            have hz3 := hB3.size
            generalize Cq.drew = V3 at *
            clear hd
            refine wpAny_of_held (S := (fun w' => w'.cell? ⟨bf, of + k * 5, none⟩ = some (.int .i64 X.f) ∧ (w'.cell? ⟨V1p.heap.size, 0, none⟩ = some (.int .i64 Z.vn) ∧ w'.cell? ⟨V1p.heap.size, 1, none⟩ = some (.int .i64 Z.vd)) ∧ (w'.cell? ⟨V1q.heap.size, 0, none⟩ = some (.int .i64 Z.sn) ∧ w'.cell? ⟨V1q.heap.size, 1, none⟩ = some (.int .i64 Z.sd)))) _ _ _ _ ?_
            have hS3 := And.intro (hSV _ hB3).1.1 (And.intro n3.all n4.all)
            refine tk0 (v := ?_) (by kernel_rfl) (by kernel_rfl) (by kernel_rfl) (fun _ _ _ h => h) (Or.inl ⟨by rfl, ?_⟩) hS3 ?_
            rotate_left
            · (intro w hSw; (try dsimp only at hSw); go_simp; try with_reducible rfl)
            simp only [Act.put, List.setIfInBounds_toArray, List.set_cons_zero, List.set_cons_succ]
            refine tk1 (v := ?_) (by kernel_rfl) (by kernel_rfl) (by kernel_rfl) (fun _ _ _ h => h) (Or.inl ⟨by rfl, ?_⟩) hS3 ?_
            rotate_left
            · (intro w hSw; (try dsimp only at hSw); go_simp; try with_reducible rfl)
            simp only [Act.put, List.setIfInBounds_toArray, List.set_cons_zero, List.set_cons_succ]
            refine tk2 (v := ?_) (by kernel_rfl) (by kernel_rfl) (by kernel_rfl) (fun _ _ _ h => h) (Or.inl ⟨by rfl, ?_⟩) hS3 ?_
            rotate_left
            · (intro w hSw; (try dsimp only at hSw); go_simp; try with_reducible rfl)
            simp only [Act.put, List.setIfInBounds_toArray, List.set_cons_zero, List.set_cons_succ]
            refine tk3 (v := ?_) (by kernel_rfl) (by kernel_rfl) (by kernel_rfl) (fun _ _ _ h => h) (Or.inl ⟨by rfl, ?_⟩) hS3 ?_
            rotate_left
            · (intro w hSw; (try dsimp only at hSw); go_simp; try with_reducible rfl)
            simp only [Act.put, List.setIfInBounds_toArray, List.set_cons_zero, List.set_cons_succ]
            refine tk4 (v := ?_) (by kernel_rfl) (by kernel_rfl) (by kernel_rfl) (fun _ _ _ h => h) (Or.inl ⟨by rfl, ?_⟩) hS3 ?_
            rotate_left
            · (intro w hSw; (try dsimp only at hSw); go_simp; try with_reducible rfl)
            simp only [Act.put, List.setIfInBounds_toArray, List.set_cons_zero, List.set_cons_succ]
            refine tk5 (v := ?_) (by kernel_rfl) (by kernel_rfl) (by kernel_rfl) (fun _ _ _ h => h) (Or.inl ⟨by rfl, ?_⟩) hS3 ?_
            rotate_left
            · (intro w hSw; (try dsimp only at hSw); go_simp; try with_reducible rfl)
            simp only [Act.put, List.setIfInBounds_toArray, List.set_cons_zero, List.set_cons_succ]
            refine tk6 (v := ?_) (by kernel_rfl) (by kernel_rfl) (by kernel_rfl) (fun _ _ _ h => h) (Or.inl ⟨by rfl, ?_⟩) hS3 ?_
            rotate_left
            · (intro w hSw; (try dsimp only at hSw); go_simp; try with_reducible rfl)
            simp only [Act.put, List.setIfInBounds_toArray, List.set_cons_zero, List.set_cons_succ]
            refine tk7 (v := ?_) (by kernel_rfl) (by kernel_rfl) (by kernel_rfl) (fun _ _ _ h => h) (Or.inl ⟨by rfl, ?_⟩) hS3 ?_
            rotate_left
            · (intro w hSw; (try dsimp only at hSw); go_simp; try with_reducible rfl)
            simp only [Act.put, List.setIfInBounds_toArray, List.set_cons_zero, List.set_cons_succ]
            refine tk8 (v := ?_) (by kernel_rfl) (by kernel_rfl) (by kernel_rfl) (fun _ _ _ h => h) (Or.inl ⟨by rfl, ?_⟩) hS3 ?_
            rotate_left
            · (intro w hSw; (try dsimp only at hSw); go_simp; try with_reducible rfl)
            simp only [Act.put, List.setIfInBounds_toArray, List.set_cons_zero, List.set_cons_succ]
            refine wpAnyH_ready (rs := [9]) (by kernel_rfl) (by simp) (st9 (fun K hK => ?_) AllReadyH.nil)
            go_simp
            have hal := (Below.refl _ V3).alloc (Nat.le_refl _) (.cells #[.int .i64 X.f, .int .i64 Z.vn, .int .i64 Z.vd, .int .i64 Z.sn, .int .i64 Z.sd] 51)
            have hB4 := hB3.trans (hal.mono hB3.size)
            refine hK.out _ _ ?_ (fun hHeld => ?_)
            · exact ⟨(hSV _ hB4).1.1, (n3.below hal).all, (n4.below hal).all⟩
            clear hK K
            try simp only [Act.put, List.setIfInBounds_toArray, List.set_cons_zero, List.set_cons_succ]
            refine wpAnyH_ready (rs := [10]) (by kernel_rfl) (by simp) (st10 (fun K hK => ?_) AllReadyH.nil)
            refine step_appP rfl (.tmp 87) (.tmp 96) rfl w2.heap.size _ _ rfl (hO3.below hal) V3.heap.size 1 Z rfl (by have := OneP.new V3 Z 51; rw [HZ0.out] at this; exact this) (by have := HTL.out; omega) (by simp; omega) (fun v' w' ho hg => ?_)
            have HB5 : Hid (RowKit.Below w2.heap.size w2 w') := hB4.grown hg (by simp; omega) (hO3.below hal).block
            have HO5 : Hid (OwnP w' w2.heap.size v' ((rdG (scT rn) (f.take (k + 1))).map (muR rn rd))) := by show OwnP _ _ _ _; rw [HTk.out]; exact ho
            have n5 : NmB w' (V1p.heap.size) Z.vn Z.vd := (hg.block _ (by have := (Array.getElem?_eq_some_iff.1 (n3.below hal)).1; exact this) (fun e => by have := hrow1p _ e.symm; omega)).trans (n3.below hal)
            have n6 : NmB w' (V1q.heap.size) Z.sn Z.sd := (hg.block _ (by have := (Array.getElem?_eq_some_iff.1 (n4.below hal)).1; exact this) (fun e => by have := hrow1q _ e.symm; omega)).trans (n4.below hal)
            refine hK.out _ _ ?_ (fun hHeld => ?_)
            · exact ⟨(hSV _ HB5.out).1.1, n5.all, n6.all⟩
            clear hK K
            try simp only [Act.put, List.setIfInBounds_toArray, List.set_cons_zero, List.set_cons_succ]
            refine tk11 (v := ?_) (by kernel_rfl) (by kernel_rfl) (by kernel_rfl) (fun _ _ _ h => h) (Or.inl ⟨by rfl, ?_⟩) hHeld ?_
            rotate_left
            · (intro w hSw; (try dsimp only at hSw); go_simp; try with_reducible rfl)
            simp only [Act.put, List.setIfInBounds_toArray, List.set_cons_zero, List.set_cons_succ]
            refine wpAnyH_done (by kernel_rfl) ?_ _
            clear ho hg hal hB4 hO3 hB3 hS3 n3 n4
            obtain ⟨c0, c1⟩ := n5.all
            obtain ⟨c2, c3⟩ := n6.all
            cases c with
            | false =>
              have E : Hid (RS = ([], 3)) := by show _ = _; rw [HRS.out, if_neg (scale_no HTk.out HCC.out.symm)]
              go_wp2_with fail
              refine (rvalid_b [⟨0, Z.vn, Z.vd, Z.sn, Z.sd⟩] false HV.out.1 (some ⟨w'.heap.size + 1, 0, none⟩) (w'.heap.size + 1) 0 1 1 _ (slp_at (w'.alloc (.cells #[.int .i64 0, .int .i64 Z.vn, .int .i64 Z.vd, .int .i64 Z.sn, .int .i64 Z.sd] 51)) (w'.heap.size + 1) (by simp) [⟨0, Z.vn, Z.vd, Z.sn, Z.sd⟩] _ _ 1 rfl rfl (by omega) HV.out.2)).mono ?_
              rintro _ w6 ⟨rfl, hb⟩
              have hw6 : RowKit.Below w'.heap.size w' w6 := (((Below.refl _ w').alloc (Nat.le_refl _) _).alloc (by simp) _).trans (hb.mono (by simp; omega))
              have HB6 := Lib.hid (HB5.out.trans (hw6.mono HB5.out.size))
              clear c0 c1 c2 c3 hb
              go_wp2
              go_ret2
              rw [E.out]
              exact OutP.bad (HB2.out.trans (HB6.out.mono (Nat.le_of_lt hz2)))
            | true =>
              have HA2 : Hid (((rdG (scT rn) (f.take (k + 1))).map (muR rn rd)).all wl = true) := by show _ = _; rw [HTk.out, List.all_append, HA.out, List.all_cons, ← HCC.out]; rfl
              go_wp2_with fail
              refine (rvalid_b [⟨0, Z.vn, Z.vd, Z.sn, Z.sd⟩] true HV.out.1 (some ⟨w'.heap.size + 1, 0, none⟩) (w'.heap.size + 1) 0 1 1 _ (slp_at (w'.alloc (.cells #[.int .i64 0, .int .i64 Z.vn, .int .i64 Z.vd, .int .i64 Z.sn, .int .i64 Z.sd] 51)) (w'.heap.size + 1) (by simp) [⟨0, Z.vn, Z.vd, Z.sn, Z.sd⟩] _ _ 1 rfl rfl (by omega) HV.out.2)).mono ?_
              rintro _ w6 ⟨rfl, hb⟩
              have hw6 : RowKit.Below w'.heap.size w' w6 := (((Below.refl _ w').alloc (Nat.le_refl _) _).alloc (by simp) _).trans (hb.mono (by simp; omega))
              have HB6 := Lib.hid (HB5.out.trans (hw6.mono HB5.out.size))
              clear c0 c1 c2 c3 hb
              have HO6 := Lib.hid (HO5.out.below hw6)
              clear hw6
              go_wp2
              go_roundg (lf - (k + 1))
              case measure => omega
              case rel => exact ⟨k + 1, by go_num, by omega, by omega, HB6.out, HO6.out, HA2.out⟩
          · skip
            go_simp
            have hal := (Below.refl _ V0q).alloc (Nat.le_refl _) (.cells #[.int .i64 0, .int .i64 0] 24)
            refine hK.out _ _ ?_ (fun hHeld => ?_)
            · exact hSV _ (hB0q.trans (hal.mono hB0q.size))
            clear hK K
            try simp only [Act.put, List.setIfInBounds_toArray, List.set_cons_zero, List.set_cons_succ]
            refine wpAnyH_ready (rs := [18]) (by kernel_rfl) (by simp) (st18 (fun K hK => ?_) AllReadyH.nil)
            go_simp
            refine (KR2.out _).mono ?_
            rintro _ V1q ⟨rfl, hb⟩
            go_wp2_with fail
            have hab := hal.trans (hb.mono hal.size)
            have hB1q := hB0q.trans (hab.mono hB0q.size)
            have hO1q := hO0q.below hab
            have nzq := (NmB.new V0q 0 0).below hb
            have np1q := np0q.below hab
            clear hb hal hab
            refine hK.out _ _ ?_ (fun hHeld => ?_)
            · exact hSV _ hB1q
            clear hK K
            try simp only [Act.put, List.setIfInBounds_toArray, List.set_cons_zero, List.set_cons_succ]
            refine wpAnyH_ready (rs := [20]) (by kernel_rfl) (by simp) (st20 (fun K hK => ?_) AllReadyH.nil)
            obtain ⟨c0q, c1q⟩ := nzq.all
            obtain ⟨f0q, f1q⟩ := nzq.fz
            go_simp
            have nq := nzq.put (Z.sn) (Z.sd)
            have hB2q : RowKit.Below w2.heap.size w2 ((V1q.setCell ⟨V0q.heap.size, 0, none⟩ (.int .i64 (Z.sn))).setCell ⟨V0q.heap.size, 1, none⟩ (.int .i64 (Z.sd))) := (hB1q.setCell hzq _).setCell hzq _
            have hO2q := hO1q.other nzq (by decide) (fun k hk => put2_other V1q (Z.sn) (Z.sd) hk)
            have np2q : NmB _ (V1p.heap.size) (Z.vn) (Z.vd) := (put2_other V1q (Z.sn) (Z.sd) (show V1p.heap.size ≠ V0q.heap.size by have := lnpq; omega)).trans np1q
            refine hK.out _ _ ?_ (fun hHeld => ?_)
            · exact hSV _ hB2q
            clear hK K
            try simp only [Act.put, List.setIfInBounds_toArray, List.set_cons_zero, List.set_cons_succ]
            refine wpAnyH_done (by kernel_rfl) ?_ _
            have hrow1q := hrowq
            have hz1q := hzq
            obtain ⟨Cq, hCq⟩ : ∃ C, C = (V1q.setCell ⟨V0q.heap.size, 0, none⟩ (.int .i64 (Z.sn))).setCell ⟨V0q.heap.size, 1, none⟩ (.int .i64 (Z.sd)) := ⟨_, rfl⟩
            rw [← hCq] at nq hB2q hO2q np2q ⊢
            clear hCq c0q c1q f0q f1q
            go_wp2_with fail
            refine wp_region_dr mixed ?_
            have hd : RowKit.Below Cq.heap.size Cq Cq.drew := (Below.refl _ Cq).drew
            have hB3 := hB2q.trans (hd.mono hB2q.size)
            have hO3 := hO2q.below hd
            have n3 := np2q.below hd
            have n4 := nq.below hd
            have hz3 := hB3.size
            generalize Cq.drew = V3 at *
            clear hd
            refine wpAny_of_held (S := (fun w' => w'.cell? ⟨bf, of + k * 5, none⟩ = some (.int .i64 X.f) ∧ (w'.cell? ⟨V1p.heap.size, 0, none⟩ = some (.int .i64 Z.vn) ∧ w'.cell? ⟨V1p.heap.size, 1, none⟩ = some (.int .i64 Z.vd)) ∧ (w'.cell? ⟨V0q.heap.size, 0, none⟩ = some (.int .i64 Z.sn) ∧ w'.cell? ⟨V0q.heap.size, 1, none⟩ = some (.int .i64 Z.sd)))) _ _ _ _ ?_
            have hS3 := And.intro (hSV _ hB3).1.1 (And.intro n3.all n4.all)
            refine tk0 (v := ?_) (by kernel_rfl) (by kernel_rfl) (by kernel_rfl) (fun _ _ _ h => h) (Or.inl ⟨by rfl, ?_⟩) hS3 ?_
            rotate_left
            · (intro w hSw; (try dsimp only at hSw); go_simp; try with_reducible rfl)
            simp only [Act.put, List.setIfInBounds_toArray, List.set_cons_zero, List.set_cons_succ]
            refine tk1 (v := ?_) (by kernel_rfl) (by kernel_rfl) (by kernel_rfl) (fun _ _ _ h => h) (Or.inl ⟨by rfl, ?_⟩) hS3 ?_
            rotate_left
            · (intro w hSw; (try dsimp only at hSw); go_simp; try with_reducible rfl)
            simp only [Act.put, List.setIfInBounds_toArray, List.set_cons_zero, List.set_cons_succ]
            refine tk2 (v := ?_) (by kernel_rfl) (by kernel_rfl) (by kernel_rfl) (fun _ _ _ h => h) (Or.inl ⟨by rfl, ?_⟩) hS3 ?_
            rotate_left
            · (intro w hSw; (try dsimp only at hSw); go_simp; try with_reducible rfl)
            simp only [Act.put, List.setIfInBounds_toArray, List.set_cons_zero, List.set_cons_succ]
            refine tk3 (v := ?_) (by kernel_rfl) (by kernel_rfl) (by kernel_rfl) (fun _ _ _ h => h) (Or.inl ⟨by rfl, ?_⟩) hS3 ?_
            rotate_left
            · (intro w hSw; (try dsimp only at hSw); go_simp; try with_reducible rfl)
            simp only [Act.put, List.setIfInBounds_toArray, List.set_cons_zero, List.set_cons_succ]
            refine tk4 (v := ?_) (by kernel_rfl) (by kernel_rfl) (by kernel_rfl) (fun _ _ _ h => h) (Or.inl ⟨by rfl, ?_⟩) hS3 ?_
            rotate_left
            · (intro w hSw; (try dsimp only at hSw); go_simp; try with_reducible rfl)
            simp only [Act.put, List.setIfInBounds_toArray, List.set_cons_zero, List.set_cons_succ]
            refine tk5 (v := ?_) (by kernel_rfl) (by kernel_rfl) (by kernel_rfl) (fun _ _ _ h => h) (Or.inl ⟨by rfl, ?_⟩) hS3 ?_
            rotate_left
            · (intro w hSw; (try dsimp only at hSw); go_simp; try with_reducible rfl)
            simp only [Act.put, List.setIfInBounds_toArray, List.set_cons_zero, List.set_cons_succ]
            refine tk6 (v := ?_) (by kernel_rfl) (by kernel_rfl) (by kernel_rfl) (fun _ _ _ h => h) (Or.inl ⟨by rfl, ?_⟩) hS3 ?_
            rotate_left
            · (intro w hSw; (try dsimp only at hSw); go_simp; try with_reducible rfl)
            simp only [Act.put, List.setIfInBounds_toArray, List.set_cons_zero, List.set_cons_succ]
            refine tk7 (v := ?_) (by kernel_rfl) (by kernel_rfl) (by kernel_rfl) (fun _ _ _ h => h) (Or.inl ⟨by rfl, ?_⟩) hS3 ?_
            rotate_left
            · (intro w hSw; (try dsimp only at hSw); go_simp; try with_reducible rfl)
            simp only [Act.put, List.setIfInBounds_toArray, List.set_cons_zero, List.set_cons_succ]
            refine tk8 (v := ?_) (by kernel_rfl) (by kernel_rfl) (by kernel_rfl) (fun _ _ _ h => h) (Or.inl ⟨by rfl, ?_⟩) hS3 ?_
            rotate_left
            · (intro w hSw; (try dsimp only at hSw); go_simp; try with_reducible rfl)
            simp only [Act.put, List.setIfInBounds_toArray, List.set_cons_zero, List.set_cons_succ]
            refine wpAnyH_ready (rs := [9]) (by kernel_rfl) (by simp) (st9 (fun K hK => ?_) AllReadyH.nil)
            go_simp
            have hal := (Below.refl _ V3).alloc (Nat.le_refl _) (.cells #[.int .i64 X.f, .int .i64 Z.vn, .int .i64 Z.vd, .int .i64 Z.sn, .int .i64 Z.sd] 51)
            have hB4 := hB3.trans (hal.mono hB3.size)
            refine hK.out _ _ ?_ (fun hHeld => ?_)
            · exact ⟨(hSV _ hB4).1.1, (n3.below hal).all, (n4.below hal).all⟩
            clear hK K
            try simp only [Act.put, List.setIfInBounds_toArray, List.set_cons_zero, List.set_cons_succ]
            refine wpAnyH_ready (rs := [10]) (by kernel_rfl) (by simp) (st10 (fun K hK => ?_) AllReadyH.nil)
            refine step_appP rfl (.tmp 87) (.tmp 96) rfl w2.heap.size _ _ rfl (hO3.below hal) V3.heap.size 1 Z rfl (by have := OneP.new V3 Z 51; rw [HZ0.out] at this; exact this) (by have := HTL.out; omega) (by simp; omega) (fun v' w' ho hg => ?_)
            have HB5 : Hid (RowKit.Below w2.heap.size w2 w') := hB4.grown hg (by simp; omega) (hO3.below hal).block
            have HO5 : Hid (OwnP w' w2.heap.size v' ((rdG (scT rn) (f.take (k + 1))).map (muR rn rd))) := by show OwnP _ _ _ _; rw [HTk.out]; exact ho
            have n5 : NmB w' (V1p.heap.size) Z.vn Z.vd := (hg.block _ (by have := (Array.getElem?_eq_some_iff.1 (n3.below hal)).1; exact this) (fun e => by have := hrow1p _ e.symm; omega)).trans (n3.below hal)
            have n6 : NmB w' (V0q.heap.size) Z.sn Z.sd := (hg.block _ (by have := (Array.getElem?_eq_some_iff.1 (n4.below hal)).1; exact this) (fun e => by have := hrow1q _ e.symm; omega)).trans (n4.below hal)
            refine hK.out _ _ ?_ (fun hHeld => ?_)
            · exact ⟨(hSV _ HB5.out).1.1, n5.all, n6.all⟩
            clear hK K
            try simp only [Act.put, List.setIfInBounds_toArray, List.set_cons_zero, List.set_cons_succ]
            refine tk11 (v := ?_) (by kernel_rfl) (by kernel_rfl) (by kernel_rfl) (fun _ _ _ h => h) (Or.inl ⟨by rfl, ?_⟩) hHeld ?_
            rotate_left
            · (intro w hSw; (try dsimp only at hSw); go_simp; try with_reducible rfl)
            simp only [Act.put, List.setIfInBounds_toArray, List.set_cons_zero, List.set_cons_succ]
            refine wpAnyH_done (by kernel_rfl) ?_ _
            clear ho hg hal hB4 hO3 hB3 hS3 n3 n4
            obtain ⟨c0, c1⟩ := n5.all
            obtain ⟨c2, c3⟩ := n6.all
            cases c with
            | false =>
              have E : Hid (RS = ([], 3)) := by show _ = _; rw [HRS.out, if_neg (scale_no HTk.out HCC.out.symm)]
              go_wp2_with fail
              refine (rvalid_b [⟨0, Z.vn, Z.vd, Z.sn, Z.sd⟩] false HV.out.1 (some ⟨w'.heap.size + 1, 0, none⟩) (w'.heap.size + 1) 0 1 1 _ (slp_at (w'.alloc (.cells #[.int .i64 0, .int .i64 Z.vn, .int .i64 Z.vd, .int .i64 Z.sn, .int .i64 Z.sd] 51)) (w'.heap.size + 1) (by simp) [⟨0, Z.vn, Z.vd, Z.sn, Z.sd⟩] _ _ 1 rfl rfl (by omega) HV.out.2)).mono ?_
              rintro _ w6 ⟨rfl, hb⟩
              have hw6 : RowKit.Below w'.heap.size w' w6 := (((Below.refl _ w').alloc (Nat.le_refl _) _).alloc (by simp) _).trans (hb.mono (by simp; omega))
              have HB6 := Lib.hid (HB5.out.trans (hw6.mono HB5.out.size))
              clear c0 c1 c2 c3 hb
              go_wp2
              go_ret2
              rw [E.out]
              exact OutP.bad (HB2.out.trans (HB6.out.mono (Nat.le_of_lt hz2)))
            | true =>
              have HA2 : Hid (((rdG (scT rn) (f.take (k + 1))).map (muR rn rd)).all wl = true) := by show _ = _; rw [HTk.out, List.all_append, HA.out, List.all_cons, ← HCC.out]; rfl
              go_wp2_with fail
              refine (rvalid_b [⟨0, Z.vn, Z.vd, Z.sn, Z.sd⟩] true HV.out.1 (some ⟨w'.heap.size + 1, 0, none⟩) (w'.heap.size + 1) 0 1 1 _ (slp_at (w'.alloc (.cells #[.int .i64 0, .int .i64 Z.vn, .int .i64 Z.vd, .int .i64 Z.sn, .int .i64 Z.sd] 51)) (w'.heap.size + 1) (by simp) [⟨0, Z.vn, Z.vd, Z.sn, Z.sd⟩] _ _ 1 rfl rfl (by omega) HV.out.2)).mono ?_
              rintro _ w6 ⟨rfl, hb⟩
              have hw6 : RowKit.Below w'.heap.size w' w6 := (((Below.refl _ w').alloc (Nat.le_refl _) _).alloc (by simp) _).trans (hb.mono (by simp; omega))
              have HB6 := Lib.hid (HB5.out.trans (hw6.mono HB5.out.size))
              clear c0 c1 c2 c3 hb
              have HO6 := Lib.hid (HO5.out.below hw6)
              clear hw6
              go_wp2
              go_roundg (lf - (k + 1))
              case measure => omega
              case rel => exact ⟨k + 1, by go_num, by omega, by omega, HB6.out, HO6.out, HA2.out⟩
        · skip
          go_simp
          have hal := (Below.refl _ V0p).alloc (Nat.le_refl _) (.cells #[.int .i64 0, .int .i64 0] 24)
          refine hK.out _ _ ?_ (fun hHeld => ?_)
          · exact hSV _ (hB0p.trans (hal.mono hB0p.size))
          clear hK K
          try simp only [Act.put, List.setIfInBounds_toArray, List.set_cons_zero, List.set_cons_succ]
          refine wpAnyH_ready (rs := [18]) (by kernel_rfl) (by simp) (st18 (fun K hK => ?_) AllReadyH.nil)
          go_simp
          refine (KR1.out _).mono ?_
          rintro _ V1p ⟨rfl, hb⟩
          go_wp2_with fail
          have hab := hal.trans (hb.mono hal.size)
          have hB1p := hB0p.trans (hab.mono hB0p.size)
          have hO1p := hO0p.below hab
          have nzp := (NmB.new V0p 0 0).below hb
          clear hb hal hab
          refine hK.out _ _ ?_ (fun hHeld => ?_)
          · exact hSV _ hB1p
          clear hK K
          try simp only [Act.put, List.setIfInBounds_toArray, List.set_cons_zero, List.set_cons_succ]
          refine wpAnyH_ready (rs := [20]) (by kernel_rfl) (by simp) (st20 (fun K hK => ?_) AllReadyH.nil)
          obtain ⟨c0p, c1p⟩ := nzp.all
          obtain ⟨f0p, f1p⟩ := nzp.fz
          go_simp
          have np := nzp.put (Z.vn) (Z.vd)
          have hB2p : RowKit.Below w2.heap.size w2 ((V1p.setCell ⟨V0p.heap.size, 0, none⟩ (.int .i64 (Z.vn))).setCell ⟨V0p.heap.size, 1, none⟩ (.int .i64 (Z.vd))) := (hB1p.setCell hzp _).setCell hzp _
          have hO2p := hO1p.other nzp (by decide) (fun k hk => put2_other V1p (Z.vn) (Z.vd) hk)
          refine hK.out _ _ ?_ (fun hHeld => ?_)
          · exact hSV _ hB2p
          clear hK K
          try simp only [Act.put, List.setIfInBounds_toArray, List.set_cons_zero, List.set_cons_succ]
          refine wpAnyH_done (by kernel_rfl) ?_ _
          have hrow1p := hrowp
          have hz1p := hzp
          obtain ⟨Cp, hCp⟩ : ∃ C, C = (V1p.setCell ⟨V0p.heap.size, 0, none⟩ (.int .i64 (Z.vn))).setCell ⟨V0p.heap.size, 1, none⟩ (.int .i64 (Z.vd)) := ⟨_, rfl⟩
          rw [← hCp] at np hB2p hO2p  ⊢
          clear hCp c0p c1p f0p f1p
          go_wp2_with fail
          refine wp_region_dr mixed ?_
          have hd : RowKit.Below Cp.heap.size Cp Cp.drew := (Below.refl _ Cp).drew
          have hB0q := hB2p.trans (hd.mono hB2p.size)
          have hO0q := hO2p.below hd
          have np0q := np.below hd
          have hrowq := hO0q.lt
          have hzq := hB0q.size
          have lnpq := (Array.getElem?_eq_some_iff.1 np0q).1
          generalize Cp.drew = V0q at *
          clear hd
          refine wpAny_of_held (S := (fun w' => (w'.cell? ⟨bf, of + k * 5, none⟩ = some (.int .i64 X.f) ∧ w'.cell? ⟨bf, of + k * 5 + 1, none⟩ = some (.int .i64 X.vn) ∧ w'.cell? ⟨bf, of + k * 5 + 2, none⟩ = some (.int .i64 X.vd) ∧ w'.cell? ⟨bf, of + k * 5 + 3, none⟩ = some (.int .i64 X.sn) ∧ w'.cell? ⟨bf, of + k * 5 + 4, none⟩ = some (.int .i64 X.sd)) ∧ w'.cell? ⟨w.heap.size, 0, none⟩ = some (.int .i64 rn) ∧ w'.cell? ⟨w.heap.size, 1, none⟩ = some (.int .i64 rd))) _ _ _ _ ?_
          have hS0q := hSV _ hB0q
          refine tk0 (v := ?_) (by kernel_rfl) (by kernel_rfl) (by kernel_rfl) (fun _ _ _ h => h) (Or.inl ⟨by rfl, ?_⟩) hS0q ?_
          rotate_left
          · (intro w hSw; (try dsimp only at hSw); go_simp; try with_reducible rfl)
          simp only [Act.put, List.setIfInBounds_toArray, List.set_cons_zero, List.set_cons_succ]
          refine tk1 (v := ?_) (by kernel_rfl) (by kernel_rfl) (by kernel_rfl) (fun _ _ _ h => h) (Or.inl ⟨by rfl, ?_⟩) hS0q ?_
          rotate_left
          · (intro w hSw; (try dsimp only at hSw); go_simp; try with_reducible rfl)
          simp only [Act.put, List.setIfInBounds_toArray, List.set_cons_zero, List.set_cons_succ]
          refine tk2 (v := ?_) (by kernel_rfl) (by kernel_rfl) (by kernel_rfl) (fun _ _ _ h => h) (Or.inl ⟨by rfl, ?_⟩) hS0q ?_
          rotate_left
          · (intro w hSw; (try dsimp only at hSw); go_simp; try with_reducible rfl)
          simp only [Act.put, List.setIfInBounds_toArray, List.set_cons_zero, List.set_cons_succ]
          refine tk3 (v := ?_) (by kernel_rfl) (by kernel_rfl) (by kernel_rfl) (fun _ _ _ h => h) (Or.inl ⟨by rfl, ?_⟩) hS0q ?_
          rotate_left
          · (intro w hSw; (try dsimp only at hSw); go_simp; try with_reducible rfl)
          simp only [Act.put, List.setIfInBounds_toArray, List.set_cons_zero, List.set_cons_succ]
          refine tk4 (v := ?_) (by kernel_rfl) (by kernel_rfl) (by kernel_rfl) (fun _ _ _ h => h) (Or.inl ⟨by rfl, ?_⟩) hS0q ?_
          rotate_left
          · (intro w hSw; (try dsimp only at hSw); go_simp; try with_reducible rfl)
          simp only [Act.put, List.setIfInBounds_toArray, List.set_cons_zero, List.set_cons_succ]
          refine tk5 (v := ?_) (by kernel_rfl) (by kernel_rfl) (by kernel_rfl) (fun _ _ _ h => h) (Or.inl ⟨by rfl, ?_⟩) hS0q ?_
          rotate_left
          · (intro w hSw; (try dsimp only at hSw); go_simp; try with_reducible rfl)
          simp only [Act.put, List.setIfInBounds_toArray, List.set_cons_zero, List.set_cons_succ]
          refine tk6 (v := ?_) (by kernel_rfl) (by kernel_rfl) (by kernel_rfl) (fun _ _ _ h => h) (Or.inl ⟨by rfl, ?_⟩) hS0q ?_
          rotate_left
          · (intro w hSw; (try dsimp only at hSw); go_simp; try with_reducible rfl)
          simp only [Act.put, List.setIfInBounds_toArray, List.set_cons_zero, List.set_cons_succ]
          refine tk7 (v := ?_) (by kernel_rfl) (by kernel_rfl) (by kernel_rfl) (fun _ _ _ h => h) (Or.inl ⟨by rfl, ?_⟩) hS0q ?_
          rotate_left
          · (intro w hSw; (try dsimp only at hSw); go_simp; try with_reducible rfl)
          simp only [Act.put, List.setIfInBounds_toArray, List.set_cons_zero, List.set_cons_succ]
          refine tk8 (v := ?_) (by kernel_rfl) (by kernel_rfl) (by kernel_rfl) (fun _ _ _ h => h) (Or.inl ⟨by rfl, ?_⟩) hS0q ?_
          rotate_left
          · (intro w hSw; (try dsimp only at hSw); go_simp; try with_reducible rfl)
          simp only [Act.put, List.setIfInBounds_toArray, List.set_cons_zero, List.set_cons_succ]
          refine tk9 (v := ?_) (by kernel_rfl) (by kernel_rfl) (by kernel_rfl) (fun _ _ _ h => h) (Or.inl ⟨by rfl, ?_⟩) hS0q ?_
          rotate_left
          · (intro w hSw; (try dsimp only at hSw); go_simp; try with_reducible rfl)
          simp only [Act.put, List.setIfInBounds_toArray, List.set_cons_zero, List.set_cons_succ]
          refine tk10 (v := ?_) (by kernel_rfl) (by kernel_rfl) (by kernel_rfl) (fun _ _ _ h => h) (Or.inl ⟨by rfl, ?_⟩) hS0q ?_
          rotate_left
          · (intro w hSw; (try dsimp only at hSw); go_simp; try with_reducible rfl)
          simp only [Act.put, List.setIfInBounds_toArray, List.set_cons_zero, List.set_cons_succ]
          refine tk11 (v := ?_) (by kernel_rfl) (by kernel_rfl) (by kernel_rfl) (fun _ _ _ h => h) (Or.inl ⟨by rfl, ?_⟩) hS0q ?_
          rotate_left
          · (intro w hSw; (try dsimp only at hSw); go_simp; try with_reducible rfl)
          simp only [Act.put, List.setIfInBounds_toArray, List.set_cons_zero, List.set_cons_succ]
          refine tk12 (v := ?_) (by kernel_rfl) (by kernel_rfl) (by kernel_rfl) (fun _ _ _ h => h) (Or.inl ⟨by rfl, ?_⟩) hS0q ?_
          rotate_left
          · (intro w hSw; (try dsimp only at hSw); go_simp; try with_reducible rfl)
          simp only [Act.put, List.setIfInBounds_toArray, List.set_cons_zero, List.set_cons_succ]
          refine tk13 (v := ?_) (by kernel_rfl) (by kernel_rfl) (by kernel_rfl) (fun _ _ _ h => h) (Or.inl ⟨by rfl, ?_⟩) hS0q ?_
          rotate_left
          · (intro w hSw; (try dsimp only at hSw); go_simp; try with_reducible rfl)
          simp only [Act.put, List.setIfInBounds_toArray, List.set_cons_zero, List.set_cons_succ]
          refine tk14 (v := ?_) (by kernel_rfl) (by kernel_rfl) (by kernel_rfl) (fun _ _ _ h => h) (Or.inl ⟨by rfl, ?_⟩) hS0q ?_
          rotate_left
          · (intro w hSw; (try dsimp only at hSw); go_simp; try with_reducible rfl)
          simp only [Act.put, List.setIfInBounds_toArray, List.set_cons_zero, List.set_cons_succ]
          refine tk15 (v := ?_) (by kernel_rfl) (by kernel_rfl) (by kernel_rfl) (fun _ _ _ h => h) (Or.inl ⟨by rfl, ?_⟩) hS0q ?_
          rotate_left
          · (intro w hSw; (try dsimp only at hSw); go_simp; try with_reducible rfl)
          simp only [Act.put, List.setIfInBounds_toArray, List.set_cons_zero, List.set_cons_succ]
          refine tk16 (v := ?_) (by kernel_rfl) (by kernel_rfl) (by kernel_rfl) (fun _ _ _ h => h) (Or.inl ⟨by rfl, ?_⟩) hS0q ?_
          rotate_left
          · (intro w hSw; (try dsimp only at hSw); go_simp; try with_reducible rfl)
          simp only [Act.put, List.setIfInBounds_toArray, List.set_cons_zero, List.set_cons_succ]
          refine tk17 (v := ?_) (by kernel_rfl) (by kernel_rfl) (by kernel_rfl) (fun _ _ _ h => h) (Or.inl ⟨by rfl, ?_⟩) hS0q ?_
          rotate_left
          · (intro w hSw; (try dsimp only at hSw); go_simp; try with_reducible rfl)
          simp only [Act.put, List.setIfInBounds_toArray, List.set_cons_zero, List.set_cons_succ]
          refine wpAnyH_ready (rs := [18, 19]) (by kernel_rfl) (by simp) (st18 (fun K hK => ?_) (st19 (fun K hK => ?_) AllReadyH.nil))
          · skip
            go_simp
            refine (KR2.out _).mono ?_
            rintro _ V1q ⟨rfl, hb⟩
            go_wp2_with fail
            have hB1q := hB0q.trans (hb.mono hB0q.size)
            have hO1q := hO0q.below hb
            have np1q := np0q.below hb
            have hrow1q := hO1q.lt
            clear hb
            refine hK.out _ _ ?_ (fun hHeld => ?_)
            · exact hSV _ hB1q
            clear hK K
            try simp only [Act.put, List.setIfInBounds_toArray, List.set_cons_zero, List.set_cons_succ]
            refine wpAnyH_ready (rs := [19]) (by kernel_rfl) (by simp) (st19 (fun K hK => ?_) AllReadyH.nil)
            go_simp
            have hal := (Below.refl _ V1q).alloc (Nat.le_refl _) (.cells #[.int .i64 0, .int .i64 0] 24)
            refine hK.out _ _ ?_ (fun hHeld => ?_)
            · exact hSV _ (hB1q.trans (hal.mono hB1q.size))
            clear hK K
            try simp only [Act.put, List.setIfInBounds_toArray, List.set_cons_zero, List.set_cons_succ]
            clear hal
            refine wpAnyH_ready (rs := [20]) (by kernel_rfl) (by simp) (st20 (fun K hK => ?_) AllReadyH.nil)
            go_simp
            have ha := (Below.refl _ V1q).alloc (Nat.le_refl _) (.cells #[.int .i64 Z.sn, .int .i64 Z.sd] 24)
            refine hK.out _ _ ?_ (fun hHeld => ?_)
            · exact hSV _ (hB1q.trans (ha.mono hB1q.size))
            clear hK K
            try simp only [Act.put, List.setIfInBounds_toArray, List.set_cons_zero, List.set_cons_succ]
            refine wpAnyH_done (by kernel_rfl) ?_ _
            have nq := NmB.new V1q (Z.sn) (Z.sd)
            have hB2q := hB1q.trans (ha.mono hB1q.size)
            have hO2q := hO1q.below ha
            have np2q := np1q.below ha
            have hz1q := hB1q.size
            obtain ⟨Cq, hCq⟩ : ∃ C, C = V1q.alloc (.cells #[.int .i64 Z.sn, .int .i64 Z.sd] 24) := ⟨_, rfl⟩
            rw [← hCq] at nq hB2q hO2q np2q ⊢
            clear hCq ha
            go_wp2_with fail
            refine wp_region_dr mixed ?_
            have hd : RowKit.Below Cq.heap.size Cq Cq.drew := (Below.refl _ Cq).drew
            have hB3 := hB2q.trans (hd.mono hB2q.size)
            have hO3 := hO2q.below hd
            have n3 := np2q.below hd
            have n4 := nq.below hd
            have hz3 := hB3.size
            generalize Cq.drew = V3 at *
            clear hd
            refine wpAny_of_held (S := (fun w' => w'.cell? ⟨bf, of + k * 5, none⟩ = some (.int .i64 X.f) ∧ (w'.cell? ⟨V0p.heap.size, 0, none⟩ = some (.int .i64 Z.vn) ∧ w'.cell? ⟨V0p.heap.size, 1, none⟩ = some (.int .i64 Z.vd)) ∧ (w'.cell? ⟨V1q.heap.size, 0, none⟩ = some (.int .i64 Z.sn) ∧ w'.cell? ⟨V1q.heap.size, 1, none⟩ = some (.int .i64 Z.sd)))) _ _ _ _ ?_
            have hS3 := And.intro (hSV _ hB3).1.1 (And.intro n3.all n4.all)
            refine tk0 (v := ?_) (by kernel_rfl) (by kernel_rfl) (by kernel_rfl) (fun _ _ _ h => h) (Or.inl ⟨by rfl, ?_⟩) hS3 ?_
            rotate_left
            · (intro w hSw; (try dsimp only at hSw); go_simp; try with_reducible rfl)
            simp only [Act.put, List.setIfInBounds_toArray, List.set_cons_zero, List.set_cons_succ]
            refine tk1 (v := ?_) (by kernel_rfl) (by kernel_rfl) (by kernel_rfl) (fun _ _ _ h => h) (Or.inl ⟨by rfl, ?_⟩) hS3 ?_
            rotate_left
            · (intro w hSw; (try dsimp only at hSw); go_simp; try with_reducible rfl)
            simp only [Act.put, List.setIfInBounds_toArray, List.set_cons_zero, List.set_cons_succ]
            refine tk2 (v := ?_) (by kernel_rfl) (by kernel_rfl) (by kernel_rfl) (fun _ _ _ h => h) (Or.inl ⟨by rfl, ?_⟩) hS3 ?_
            rotate_left
            · (intro w hSw; (try dsimp only at hSw); go_simp; try with_reducible rfl)
            simp only [Act.put, List.setIfInBounds_toArray, List.set_cons_zero, List.set_cons_succ]
            refine tk3 (v := ?_) (by kernel_rfl) (by kernel_rfl) (by kernel_rfl) (fun _ _ _ h => h) (Or.inl ⟨by rfl, ?_⟩) hS3 ?_
            rotate_left
            · (intro w hSw; (try dsimp only at hSw); go_simp; try with_reducible rfl)
            simp only [Act.put, List.setIfInBounds_toArray, List.set_cons_zero, List.set_cons_succ]
            refine tk4 (v := ?_) (by kernel_rfl) (by kernel_rfl) (by kernel_rfl) (fun _ _ _ h => h) (Or.inl ⟨by rfl, ?_⟩) hS3 ?_
            rotate_left
            · (intro w hSw; (try dsimp only at hSw); go_simp; try with_reducible rfl)
            simp only [Act.put, List.setIfInBounds_toArray, List.set_cons_zero, List.set_cons_succ]
            refine tk5 (v := ?_) (by kernel_rfl) (by kernel_rfl) (by kernel_rfl) (fun _ _ _ h => h) (Or.inl ⟨by rfl, ?_⟩) hS3 ?_
            rotate_left
            · (intro w hSw; (try dsimp only at hSw); go_simp; try with_reducible rfl)
            simp only [Act.put, List.setIfInBounds_toArray, List.set_cons_zero, List.set_cons_succ]
            refine tk6 (v := ?_) (by kernel_rfl) (by kernel_rfl) (by kernel_rfl) (fun _ _ _ h => h) (Or.inl ⟨by rfl, ?_⟩) hS3 ?_
            rotate_left
            · (intro w hSw; (try dsimp only at hSw); go_simp; try with_reducible rfl)
            simp only [Act.put, List.setIfInBounds_toArray, List.set_cons_zero, List.set_cons_succ]
            refine tk7 (v := ?_) (by kernel_rfl) (by kernel_rfl) (by kernel_rfl) (fun _ _ _ h => h) (Or.inl ⟨by rfl, ?_⟩) hS3 ?_
            rotate_left
            · (intro w hSw; (try dsimp only at hSw); go_simp; try with_reducible rfl)
            simp only [Act.put, List.setIfInBounds_toArray, List.set_cons_zero, List.set_cons_succ]
            refine tk8 (v := ?_) (by kernel_rfl) (by kernel_rfl) (by kernel_rfl) (fun _ _ _ h => h) (Or.inl ⟨by rfl, ?_⟩) hS3 ?_
            rotate_left
            · (intro w hSw; (try dsimp only at hSw); go_simp; try with_reducible rfl)
            simp only [Act.put, List.setIfInBounds_toArray, List.set_cons_zero, List.set_cons_succ]
            refine wpAnyH_ready (rs := [9]) (by kernel_rfl) (by simp) (st9 (fun K hK => ?_) AllReadyH.nil)
            go_simp
            have hal := (Below.refl _ V3).alloc (Nat.le_refl _) (.cells #[.int .i64 X.f, .int .i64 Z.vn, .int .i64 Z.vd, .int .i64 Z.sn, .int .i64 Z.sd] 51)
            have hB4 := hB3.trans (hal.mono hB3.size)
            refine hK.out _ _ ?_ (fun hHeld => ?_)
            · exact ⟨(hSV _ hB4).1.1, (n3.below hal).all, (n4.below hal).all⟩
            clear hK K
            try simp only [Act.put, List.setIfInBounds_toArray, List.set_cons_zero, List.set_cons_succ]
            refine wpAnyH_ready (rs := [10]) (by kernel_rfl) (by simp) (st10 (fun K hK => ?_) AllReadyH.nil)
            refine step_appP rfl (.tmp 87) (.tmp 96) rfl w2.heap.size _ _ rfl (hO3.below hal) V3.heap.size 1 Z rfl (by have := OneP.new V3 Z 51; rw [HZ0.out] at this; exact this) (by have := HTL.out; omega) (by simp; omega) (fun v' w' ho hg => ?_)
            have HB5 : Hid (RowKit.Below w2.heap.size w2 w') := hB4.grown hg (by simp; omega) (hO3.below hal).block
            have HO5 : Hid (OwnP w' w2.heap.size v' ((rdG (scT rn) (f.take (k + 1))).map (muR rn rd))) := by show OwnP _ _ _ _; rw [HTk.out]; exact ho
            have n5 : NmB w' (V0p.heap.size) Z.vn Z.vd := (hg.block _ (by have := (Array.getElem?_eq_some_iff.1 (n3.below hal)).1; exact this) (fun e => by have := hrow1p _ e.symm; omega)).trans (n3.below hal)
            have n6 : NmB w' (V1q.heap.size) Z.sn Z.sd := (hg.block _ (by have := (Array.getElem?_eq_some_iff.1 (n4.below hal)).1; exact this) (fun e => by have := hrow1q _ e.symm; omega)).trans (n4.below hal)
            refine hK.out _ _ ?_ (fun hHeld => ?_)
            · exact ⟨(hSV _ HB5.out).1.1, n5.all, n6.all⟩
            clear hK K
            try simp only [Act.put, List.setIfInBounds_toArray, List.set_cons_zero, List.set_cons_succ]
            refine tk11 (v := ?_) (by kernel_rfl) (by kernel_rfl) (by kernel_rfl) (fun _ _ _ h => h) (Or.inl ⟨by rfl, ?_⟩) hHeld ?_
            rotate_left
            · (intro w hSw; (try dsimp only at hSw); go_simp; try with_reducible rfl)
            simp only [Act.put, List.setIfInBounds_toArray, List.set_cons_zero, List.set_cons_succ]
            refine wpAnyH_done (by kernel_rfl) ?_ _
            clear ho hg hal hB4 hO3 hB3 hS3 n3 n4
            obtain ⟨c0, c1⟩ := n5.all
            obtain ⟨c2, c3⟩ := n6.all
            cases c with
            | false =>
              have E : Hid (RS = ([], 3)) := by show _ = _; rw [HRS.out, if_neg (scale_no HTk.out HCC.out.symm)]
              go_wp2_with fail
              refine (rvalid_b [⟨0, Z.vn, Z.vd, Z.sn, Z.sd⟩] false HV.out.1 (some ⟨w'.heap.size + 1, 0, none⟩) (w'.heap.size + 1) 0 1 1 _ (slp_at (w'.alloc (.cells #[.int .i64 0, .int .i64 Z.vn, .int .i64 Z.vd, .int .i64 Z.sn, .int .i64 Z.sd] 51)) (w'.heap.size + 1) (by simp) [⟨0, Z.vn, Z.vd, Z.sn, Z.sd⟩] _ _ 1 rfl rfl (by omega) HV.out.2)).mono ?_
              rintro _ w6 ⟨rfl, hb⟩
              have hw6 : RowKit.Below w'.heap.size w' w6 := (((Below.refl _ w').alloc (Nat.le_refl _) _).alloc (by simp) _).trans (hb.mono (by simp; omega))
              have HB6 := Lib.hid (HB5.out.trans (hw6.mono HB5.out.size))
              clear c0 c1 c2 c3 hb
              go_wp2
              go_ret2
              rw [E.out]
              exact OutP.bad (HB2.out.trans (HB6.out.mono (Nat.le_of_lt hz2)))
            | true =>
              have HA2 : Hid (((rdG (scT rn) (f.take (k + 1))).map (muR rn rd)).all wl = true) := by show _ = _; rw [HTk.out, List.all_append, HA.out, List.all_cons, ← HCC.out]; rfl
              go_wp2_with fail
              refine (rvalid_b [⟨0, Z.vn, Z.vd, Z.sn, Z.sd⟩] true HV.out.1 (some ⟨w'.heap.size + 1, 0, none⟩) (w'.heap.size + 1) 0 1 1 _ (slp_at (w'.alloc (.cells #[.int .i64 0, .int .i64 Z.vn, .int .i64 Z.vd, .int .i64 Z.sn, .int .i64 Z.sd] 51)) (w'.heap.size + 1) (by simp) [⟨0, Z.vn, Z.vd, Z.sn, Z.sd⟩] _ _ 1 rfl rfl (by omega) HV.out.2)).mono ?_
              rintro _ w6 ⟨rfl, hb⟩
              have hw6 : RowKit.Below w'.heap.size w' w6 := (((Below.refl _ w').alloc (Nat.le_refl _) _).alloc (by simp) _).trans (hb.mono (by simp; omega))
              have HB6 := Lib.hid (HB5.out.trans (hw6.mono HB5.out.size))
              clear c0 c1 c2 c3 hb
              have HO6 := Lib.hid (HO5.out.below hw6)
              clear hw6
              go_wp2
              go_roundg (lf - (k + 1))
              case measure => omega
              case rel => exact ⟨k + 1, by go_num, by omega, by omega, HB6.out, HO6.out, HA2.out⟩
          · skip
            go_simp
            have hal := (Below.refl _ V0q).alloc (Nat.le_refl _) (.cells #[.int .i64 0, .int .i64 0] 24)
            refine hK.out _ _ ?_ (fun hHeld => ?_)
            · exact hSV _ (hB0q.trans (hal.mono hB0q.size))
            clear hK K
            try simp only [Act.put, List.setIfInBounds_toArray, List.set_cons_zero, List.set_cons_succ]
            refine wpAnyH_ready (rs := [18]) (by kernel_rfl) (by simp) (st18 (fun K hK => ?_) AllReadyH.nil)
            go_simp
            refine (KR2.out _).mono ?_
            rintro _ V1q ⟨rfl, hb⟩
            go_wp2_with fail
            have hab := hal.trans (hb.mono hal.size)
            have hB1q := hB0q.trans (hab.mono hB0q.size)
            have hO1q := hO0q.below hab
            have nzq := (NmB.new V0q 0 0).below hb
            have np1q := np0q.below hab
            clear hb hal hab
            refine hK.out _ _ ?_ (fun hHeld => ?_)
            · exact hSV _ hB1q
            clear hK K
            try simp only [Act.put, List.setIfInBounds_toArray, List.set_cons_zero, List.set_cons_succ]
            refine wpAnyH_ready (rs := [20]) (by kernel_rfl) (by simp) (st20 (fun K hK => ?_) AllReadyH.nil)
            obtain ⟨c0q, c1q⟩ := nzq.all
            obtain ⟨f0q, f1q⟩ := nzq.fz
            go_simp
            have nq := nzq.put (Z.sn) (Z.sd)
            have hB2q : RowKit.Below w2.heap.size w2 ((V1q.setCell ⟨V0q.heap.size, 0, none⟩ (.int .i64 (Z.sn))).setCell ⟨V0q.heap.size, 1, none⟩ (.int .i64 (Z.sd))) := (hB1q.setCell hzq _).setCell hzq _
            have hO2q := hO1q.other nzq (by decide) (fun k hk => put2_other V1q (Z.sn) (Z.sd) hk)
            have np2q : NmB _ (V0p.heap.size) (Z.vn) (Z.vd) := (put2_other V1q (Z.sn) (Z.sd) (show V0p.heap.size ≠ V0q.heap.size by have := lnpq; omega)).trans np1q
            refine hK.out _ _ ?_ (fun hHeld => ?_)
            · exact hSV _ hB2q
            clear hK K
            try simp only [Act.put, List.setIfInBounds_toArray, List.set_cons_zero, List.set_cons_succ]
            refine wpAnyH_done (by kernel_rfl) ?_ _
            have hrow1q := hrowq
            have hz1q := hzq
            obtain ⟨Cq, hCq⟩ : ∃ C, C = (V1q.setCell ⟨V0q.heap.size, 0, none⟩ (.int .i64 (Z.sn))).setCell ⟨V0q.heap.size, 1, none⟩ (.int .i64 (Z.sd)) := ⟨_, rfl⟩
            rw [← hCq] at nq hB2q hO2q np2q ⊢
            clear hCq c0q c1q f0q f1q
            go_wp2_with fail
            refine wp_region_dr mixed ?_
            have hd : RowKit.Below Cq.heap.size Cq Cq.drew := (Below.refl _ Cq).drew
            have hB3 := hB2q.trans (hd.mono hB2q.size)
            have hO3 := hO2q.below hd
            have n3 := np2q.below hd
            have n4 := nq.below hd
            have hz3 := hB3.size
            generalize Cq.drew = V3 at *
            clear hd
            refine wpAny_of_held (S := (fun w' => w'.cell? ⟨bf, of + k * 5, none⟩ = some (.int .i64 X.f) ∧ (w'.cell? ⟨V0p.heap.size, 0, none⟩ = some (.int .i64 Z.vn) ∧ w'.cell? ⟨V0p.heap.size, 1, none⟩ = some (.int .i64 Z.vd)) ∧ (w'.cell? ⟨V0q.heap.size, 0, none⟩ = some (.int .i64 Z.sn) ∧ w'.cell? ⟨V0q.heap.size, 1, none⟩ = some (.int .i64 Z.sd)))) _ _ _ _ ?_
            have hS3 := And.intro (hSV _ hB3).1.1 (And.intro n3.all n4.all)
            refine tk0 (v := ?_) (by kernel_rfl) (by kernel_rfl) (by kernel_rfl) (fun _ _ _ h => h) (Or.inl ⟨by rfl, ?_⟩) hS3 ?_
            rotate_left
            · (intro w hSw; (try dsimp only at hSw); go_simp; try with_reducible rfl)
            simp only [Act.put, List.setIfInBounds_toArray, List.set_cons_zero, List.set_cons_succ]
            refine tk1 (v := ?_) (by kernel_rfl) (by kernel_rfl) (by kernel_rfl) (fun _ _ _ h => h) (Or.inl ⟨by rfl, ?_⟩) hS3 ?_
            rotate_left
            · (intro w hSw; (try dsimp only at hSw); go_simp; try with_reducible rfl)
            simp only [Act.put, List.setIfInBounds_toArray, List.set_cons_zero, List.set_cons_succ]
            refine tk2 (v := ?_) (by kernel_rfl) (by kernel_rfl) (by kernel_rfl) (fun _ _ _ h => h) (Or.inl ⟨by rfl, ?_⟩) hS3 ?_
            rotate_left
            · (intro w hSw; (try dsimp only at hSw); go_simp; try with_reducible rfl)
            simp only [Act.put, List.setIfInBounds_toArray, List.set_cons_zero, List.set_cons_succ]
            refine tk3 (v := ?_) (by kernel_rfl) (by kernel_rfl) (by kernel_rfl) (fun _ _ _ h => h) (Or.inl ⟨by rfl, ?_⟩) hS3 ?_
            rotate_left
            · (intro w hSw; (try dsimp only at hSw); go_simp; try with_reducible rfl)
            simp only [Act.put, List.setIfInBounds_toArray, List.set_cons_zero, List.set_cons_succ]
            refine tk4 (v := ?_) (by kernel_rfl) (by kernel_rfl) (by kernel_rfl) (fun _ _ _ h => h) (Or.inl ⟨by rfl, ?_⟩) hS3 ?_
            rotate_left
            · (intro w hSw; (try dsimp only at hSw); go_simp; try with_reducible rfl)
            simp only [Act.put, List.setIfInBounds_toArray, List.set_cons_zero, List.set_cons_succ]
            refine tk5 (v := ?_) (by kernel_rfl) (by kernel_rfl) (by kernel_rfl) (fun _ _ _ h => h) (Or.inl ⟨by rfl, ?_⟩) hS3 ?_
            rotate_left
            · (intro w hSw; (try dsimp only at hSw); go_simp; try with_reducible rfl)
            simp only [Act.put, List.setIfInBounds_toArray, List.set_cons_zero, List.set_cons_succ]
            refine tk6 (v := ?_) (by kernel_rfl) (by kernel_rfl) (by kernel_rfl) (fun _ _ _ h => h) (Or.inl ⟨by rfl, ?_⟩) hS3 ?_
            rotate_left
            · (intro w hSw; (try dsimp only at hSw); go_simp; try with_reducible rfl)
            simp only [Act.put, List.setIfInBounds_toArray, List.set_cons_zero, List.set_cons_succ]
            refine tk7 (v := ?_) (by kernel_rfl) (by kernel_rfl) (by kernel_rfl) (fun _ _ _ h => h) (Or.inl ⟨by rfl, ?_⟩) hS3 ?_
            rotate_left
            · (intro w hSw; (try dsimp only at hSw); go_simp; try with_reducible rfl)
            simp only [Act.put, List.setIfInBounds_toArray, List.set_cons_zero, List.set_cons_succ]
            refine tk8 (v := ?_) (by kernel_rfl) (by kernel_rfl) (by kernel_rfl) (fun _ _ _ h => h) (Or.inl ⟨by rfl, ?_⟩) hS3 ?_
            rotate_left
            · (intro w hSw; (try dsimp only at hSw); go_simp; try with_reducible rfl)
            simp only [Act.put, List.setIfInBounds_toArray, List.set_cons_zero, List.set_cons_succ]
            refine wpAnyH_ready (rs := [9]) (by kernel_rfl) (by simp) (st9 (fun K hK => ?_) AllReadyH.nil)
            go_simp
            have hal := (Below.refl _ V3).alloc (Nat.le_refl _) (.cells #[.int .i64 X.f, .int .i64 Z.vn, .int .i64 Z.vd, .int .i64 Z.sn, .int .i64 Z.sd] 51)
            have hB4 := hB3.trans (hal.mono hB3.size)
            refine hK.out _ _ ?_ (fun hHeld => ?_)
            · exact ⟨(hSV _ hB4).1.1, (n3.below hal).all, (n4.below hal).all⟩
            clear hK K
            try simp only [Act.put, List.setIfInBounds_toArray, List.set_cons_zero, List.set_cons_succ]
            refine wpAnyH_ready (rs := [10]) (by kernel_rfl) (by simp) (st10 (fun K hK => ?_) AllReadyH.nil)
            refine step_appP rfl (.tmp 87) (.tmp 96) rfl w2.heap.size _ _ rfl (hO3.below hal) V3.heap.size 1 Z rfl (by have := OneP.new V3 Z 51; rw [HZ0.out] at this; exact this) (by have := HTL.out; omega) (by simp; omega) (fun v' w' ho hg => ?_)
            have HB5 : Hid (RowKit.Below w2.heap.size w2 w') := hB4.grown hg (by simp; omega) (hO3.below hal).block
            have HO5 : Hid (OwnP w' w2.heap.size v' ((rdG (scT rn) (f.take (k + 1))).map (muR rn rd))) := by show OwnP _ _ _ _; rw [HTk.out]; exact ho
            have n5 : NmB w' (V0p.heap.size) Z.vn Z.vd := (hg.block _ (by have := (Array.getElem?_eq_some_iff.1 (n3.below hal)).1; exact this) (fun e => by have := hrow1p _ e.symm; omega)).trans (n3.below hal)
            have n6 : NmB w' (V0q.heap.size) Z.sn Z.sd := (hg.block _ (by have := (Array.getElem?_eq_some_iff.1 (n4.below hal)).1; exact this) (fun e => by have := hrow1q _ e.symm; omega)).trans (n4.below hal)
            refine hK.out _ _ ?_ (fun hHeld => ?_)
            · exact ⟨(hSV _ HB5.out).1.1, n5.all, n6.all⟩
            clear hK K
            try simp only [Act.put, List.setIfInBounds_toArray, List.set_cons_zero, List.set_cons_succ]
            refine tk11 (v := ?_) (by kernel_rfl) (by kernel_rfl) (by kernel_rfl) (fun _ _ _ h => h) (Or.inl ⟨by rfl, ?_⟩) hHeld ?_
            rotate_left
            · (intro w hSw; (try dsimp only at hSw); go_simp; try with_reducible rfl)
            simp only [Act.put, List.setIfInBounds_toArray, List.set_cons_zero, List.set_cons_succ]
            refine wpAnyH_done (by kernel_rfl) ?_ _
            clear ho hg hal hB4 hO3 hB3 hS3 n3 n4
            obtain ⟨c0, c1⟩ := n5.all
            obtain ⟨c2, c3⟩ := n6.all
            cases c with
            | false =>
              have E : Hid (RS = ([], 3)) := by show _ = _; rw [HRS.out, if_neg (scale_no HTk.out HCC.out.symm)]
              go_wp2_with fail
              refine (rvalid_b [⟨0, Z.vn, Z.vd, Z.sn, Z.sd⟩] false HV.out.1 (some ⟨w'.heap.size + 1, 0, none⟩) (w'.heap.size + 1) 0 1 1 _ (slp_at (w'.alloc (.cells #[.int .i64 0, .int .i64 Z.vn, .int .i64 Z.vd, .int .i64 Z.sn, .int .i64 Z.sd] 51)) (w'.heap.size + 1) (by simp) [⟨0, Z.vn, Z.vd, Z.sn, Z.sd⟩] _ _ 1 rfl rfl (by omega) HV.out.2)).mono ?_
              rintro _ w6 ⟨rfl, hb⟩
              have hw6 : RowKit.Below w'.heap.size w' w6 := (((Below.refl _ w').alloc (Nat.le_refl _) _).alloc (by simp) _).trans (hb.mono (by simp; omega))
              have HB6 := Lib.hid (HB5.out.trans (hw6.mono HB5.out.size))
              clear c0 c1 c2 c3 hb
              go_wp2
              go_ret2
              rw [E.out]
              exact OutP.bad (HB2.out.trans (HB6.out.mono (Nat.le_of_lt hz2)))
            | true =>
              have HA2 : Hid (((rdG (scT rn) (f.take (k + 1))).map (muR rn rd)).all wl = true) := by show _ = _; rw [HTk.out, List.all_append, HA.out, List.all_cons, ← HCC.out]; rfl
              go_wp2_with fail
              refine (rvalid_b [⟨0, Z.vn, Z.vd, Z.sn, Z.sd⟩] true HV.out.1 (some ⟨w'.heap.size + 1, 0, none⟩) (w'.heap.size + 1) 0 1 1 _ (slp_at (w'.alloc (.cells #[.int .i64 0, .int .i64 Z.vn, .int .i64 Z.vd, .int .i64 Z.sn, .int .i64 Z.sd] 51)) (w'.heap.size + 1) (by simp) [⟨0, Z.vn, Z.vd, Z.sn, Z.sd⟩] _ _ 1 rfl rfl (by omega) HV.out.2)).mono ?_
              rintro _ w6 ⟨rfl, hb⟩
              have hw6 : RowKit.Below w'.heap.size w' w6 := (((Below.refl _ w').alloc (Nat.le_refl _) _).alloc (by simp) _).trans (hb.mono (by simp; omega))
              have HB6 := Lib.hid (HB5.out.trans (hw6.mono HB5.out.size))
              clear c0 c1 c2 c3 hb
              have HO6 := Lib.hid (HO5.out.below hw6)
              clear hw6
              go_wp2
              go_roundg (lf - (k + 1))
              case measure => omega
              case rel => exact ⟨k + 1, by go_num, by omega, by omega, HB6.out, HO6.out, HA2.out⟩
    · have hltz : ¬ (k : Int) < (lf : Int) := by omega
      have eR : f.take k = f := List.take_of_length_le (by have := HL.out; omega)
      have hO := HO.out
      have hA := HA.out
      rw [eR] at hO hA
      have hin : ∀ s, s ∈ (rdG (scT rn) f).map (muR rn rd) → s.In := fun s hs => by
        have hw := List.all_eq_true.1 hA s hs
        obtain ⟨q, hq, rfl⟩ := List.mem_map.1 hs
        exact muR_in hw (HVf.out.wl (rdG_sub hq)).2
      have hR := HRS.out
      rw [if_pos hA] at hR
      have hll := rdG_len (scT rn) f
      have hGl : ((rdG (scT rn) f).map (muR rn rd)).length ≤ 64 := by rw [List.length_map]; have := HL.out; omega
      generalize (rdG (scT rn) f).map (muR rn rd) = G at *
      obtain ⟨p2, b2, cp, hv, hS2⟩ := hO.reads (by omega) hin
      subst hv
      have HS2 := Lib.hid hS2
      have HR2 := Lib.hid hR
      have HBw := Lib.hid (HB2.out.trans (HBr.out.mono (Nat.le_of_lt hz2)))
      clear hO hA hin hR hS2 eR hll
      go_wp2
      go_ret2
      rw [HR2.out]
      exact ⟨p2, b2, 0, G.length, cp, rfl, HS2.out, HBw.out⟩
theorem rscale_any (f : List RP) (pf : Option Addr) (bf of cf lf : Nat) (rn rd : Int) (w : World) (hS : SlP w pf bf of lf f) (i1 : In64 rn) (i2 : In64 rd) :
    Calls Try.prog 20 #[.slice pf lf cf, .agg #[.int .i64 rn, .int .i64 rd]] w fun e w' => OutP (RowKit.Below w.heap.size w) (scaV f rn rd).1 (scaV f rn rd).2 e w' := by
  by_cases hf : VR f
  · by_cases hr : vld rn rd = true
    · rw [show scaV f rn rd = scaleR f rn rd from if_pos ⟨hf, hr⟩]
      exact rscale_yes f pf bf of cf lf rn rd w hS hf ((vld_iff rn rd).1 hr)
    · rw [show scaV f rn rd = ([], 1) from if_neg fun h => hr h.2]
      exact rscale_bad f pf bf of cf lf rn rd w hS true false (vR_iff.2 hf) (by simpa using hr) (.inr ⟨rfl, rfl⟩) i1 i2
  · rw [show scaV f rn rd = ([], 1) from if_neg fun h => hf h.1]
    exact rscale_bad f pf bf of cf lf rn rd w hS false (vld rn rd) (vR_no hf) rfl (.inl rfl) i1 i2
end Go.Proofs.Ytmjdolgcgbiajaa
