/-
  ZL: several texts in one.
-/
import Derived.Test.YtjifiijgghpniaaZG
import Derived.Test.YtjifiijgghpniaaZJ
import Derived.Test.YtjifiijgghpniaaZH
import Derived.Test.YtjifiijgghpniaaZI
/-
  Check's answer has room for what it holds.
-/
namespace Go.Proofs.Ytjifiijgghpniaa
open Go.RowKit Un MapKept

/-- By-laws that came in have room for what they hold. -/
theorem caps_codex {H : Type} {enc : TypeId × Value → H} {W : World} {pd pr : Option Addr} {n m cd cr : Nat} {d : DataW H} {ps : List MemPlace} (h : DataW.Trod enc Try.prog W 0 (fun _ => true) true 25 (.agg #[.slice pd n cd, .slice pr m cr]) d ps) : n ≤ cd ∧ m ≤ cr := by
  obtain ⟨fuel, h⟩ := h
  obtain ⟨xs, k, _, _, hl, hxl, hf⟩ := DataW.trod_struct Try.underlying25 h
  obtain ⟨y0, h0⟩ := fld hxl hf 0 rfl cells_decls
  obtain ⟨y1, h1⟩ := fld hxl hf 1 rfl cells_rules
  refine ⟨?_, ?_⟩
  · rcases DataW.trod_slice Try.underlying22 h0 with ⟨hcs, _⟩ | ⟨a, len, cap, _, _, _, _, hcs, _, _, hle, _⟩
    · injection hcs with hcs _; cases hcs; omega
    · injection hcs with hcs _; cases hcs; exact hle
  · rcases DataW.trod_slice Try.underlying23 h1 with ⟨hcs, _⟩ | ⟨a, len, cap, _, _, _, _, hcs, _, _, hle, _⟩
    · injection hcs with hcs _; cases hcs; omega
    · injection hcs with hcs _; cases hcs; exact hle
theorem caps_decls {H : Type} {enc : TypeId × Value → H} {W : World} {p : Option Addr} {n c : Nat} {d : DataW H} {ps : List MemPlace} (h : DataW.Trod enc Try.prog W 0 (fun _ => true) true 22 (.slice p n c) d ps) : n ≤ c := by
  obtain ⟨fuel, h⟩ := h
  rcases DataW.trod_slice Try.underlying22 h with ⟨hcs, _⟩ | ⟨a, len, cap, _, _, _, _, hcs, _, _, hle, _⟩
  · injection hcs with hcs _; cases hcs; omega
  · injection hcs with hcs _; cases hcs; exact hle
/-- The first rules. -/
theorem RsM.take {w : World} {A : Nat → Prop} {p : Option Addr} {b off : Nat} {rs : List Ru} {rows : List (List Value)} (h : RsM w A p b off rs rows) (m : Nat) (hm : m ≤ rs.length) : RsM w A p b off (rs.take m) (rows.take m) := by
  have hl : (rs.take m).length = m := by rw [List.length_take]; omega
  have hln := h.sl.ln
  refine ⟨by rw [hl]; exact h.sl.take m hm, fun i h1 h2 => ?_, fun r hr => h.nn r (List.mem_of_mem_take hr)⟩
  rw [List.length_take] at h1 h2
  simp only [List.getElem_take]
  exact h.ru i (by omega) (by omega)
set_option maxRecDepth 100000 in
set_option maxHeartbeats 8000000 in
theorem uCheckC_any (L : List Dc) (rs : List Ru) (rows : List (List Value)) (pd pr : Option Addr) (bd od cd br orr cr : Nat) (A : Nat → Prop) (w : World) (hD : SlR w pd bd od L.length 8 (L.map dC)) (hR : RsM w A pr br orr rs rows) :
    Calls Try.prog 18 #[.agg #[.slice pd L.length cd, .slice pr rs.length cr]] w fun e w' => ∃ v, e = .returned v ∧ DgM w' v (checkV vld L rs) ∧ (∀ p n c, v = .slice p n c → n ≤ c) ∧ RowKit.Below w.heap.size w w' := by
  have KB := Lib.hid (fun V (h : RowKit.Below w.heap.size w V) => uareBylaws_any L rs rows pd pr bd od cd br orr cr A V (hD.bel h) (hR.bel h))
  have KF := Lib.hid (fun (hl : L.length ≤ 1000000) V (h : RowKit.Below w.heap.size w V) => ufactErrors_any L hl pd bd od cd V (hD.bel h))
  have KR := Lib.hid (fun (hf : formC vld L rs = true) (he : errsD [] L = []) V (h : RowKit.Below w.heap.size w V) => by
    have hf2 := hf
    simp only [formC, Bool.and_eq_true, decide_eq_true_eq] at hf2
    exact uruleErrors_any L hf2.1.1 he rs (by omega) hf2.2 rows pd pr bd od cd br orr cr A V (hD.bel h) (hR.bel h))
  have A1 := (Below.refl w.heap.size w).alloc (Nat.le_refl _) (.cells #[.slice pd L.length cd, .slice pr rs.length cr] 25)
  have X1 := Lib.hid (BoxL.new w [.slice pd L.length cd, .slice pr rs.length cr] 25)
  have HB := Lib.hid A1
  have HFL : Hid (formC vld L rs = true → L.length ≤ 1000000) := fun h => by simp only [formC, formD, Bool.and_eq_true, decide_eq_true_eq] at h; have := h.1.1.1; omega
  obtain ⟨R, hRR⟩ : ∃ R, R = checkV vld L rs := ⟨_, rfl⟩
  rw [← hRR]
  have HR : Hid (R = if formC vld L rs = false then [(0, 1)] else if (errsD [] L).isEmpty then (errsR (Un.facts L) [] rs).take 20 else (errsD [] L).take 20) := hRR
  clear hRR hD hR A1
  generalize hW1 : w.alloc (.cells #[.slice pd L.length cd, .slice pr rs.length cr] 25) = W1 at *
  obtain ⟨c0, -⟩ := X1.out 0 _ rfl
  obtain ⟨c1, -⟩ := X1.out 1 _ rfl
  go_enter Try.func18, Try.ntmps18
  go_wp2_with fail
  clear hW1
  refine (KB.out _ HB.out).mono ?_
  rintro _ V1 ⟨rfl, hb⟩
  have B1 := Lib.hid (HB.out.trans (hb.mono HB.out.size))
  have X2 := Lib.hid (X1.out.bel (by simp) hb)
  clear hb KB HB X1 c0 c1
  cases hf : formC vld L rs with
  | false =>
    have HR2 : Hid (R = [(0, 1)]) := by show _ = _; rw [HR.out, if_pos hf]
    clear hf KF KR
    have a3 := (Below.refl V1.heap.size V1).alloc (Nat.le_refl _) (.cells #[.int .i64 0, .int .i64 1] 66)
    have d3 := BoxL.new V1 [.int .i64 0, .int .i64 1] 66
    have B3 := Lib.hid (B1.out.trans (a3.mono B1.out.size))
    have D3 : Hid (DgM (V1.alloc (.cells #[.int .i64 0, .int .i64 1] 66)) (.slice (some ⟨V1.heap.size, 0, none⟩) 1 1) [(0, 1)]) :=
      ⟨_, V1.heap.size, _, rfl, rfl, fun _ => rfl, fun i r hr => by
        cases i with
        | zero => cases hr; exact ⟨rfl, fun j v hv => by rw [show 0 + 0 * 2 + j = j by omega]; exact (d3 j v hv).1⟩
        | succ i => simp at hr, fun _ => by simp, by decide⟩
    clear a3 d3
    go_wp2_with fail
    go_ret
    exact ⟨_, rfl, by rw [HR2.out]; exact D3.out, (by intro _ _ _ h; cases h; omega), B3.out⟩
  | true =>
    have KF2 := Lib.hid (KF.out (HFL.out hf) V1 B1.out)
    have KR2 := Lib.hid (fun he V h => KR.out hf he V h)
    have HR2 : Hid (R = if (errsD [] L).isEmpty then (errsR (Un.facts L) [] rs).take 20 else (errsD [] L).take 20) := by show _ = _; rw [HR.out, if_neg (by rw [hf]; simp)]
    clear hf KF KR HFL HR
    obtain ⟨c0, -⟩ := X2.out 0 _ rfl
    obtain ⟨c1, -⟩ := X2.out 1 _ rfl
    go_wp2_with fail
    refine KF2.out.mono ?_
    rintro _ V2 ⟨v, rfl, hd, hb⟩
    have B2 := Lib.hid (B1.out.trans (hb.mono B1.out.size))
    have X3 := Lib.hid (X2.out.bel (by simp) hb)
    clear hb KF2 B1 X2 c0 c1
    obtain ⟨c0, -⟩ := X3.out 0 _ rfl
    obtain ⟨c1, -⟩ := X3.out 1 _ rfl
    cases he : errsD [] L with
    | nil =>
      have KR3 := Lib.hid (KR2.out he V2 B2.out)
      have HR3 : Hid (R = (errsR (Un.facts L) [] rs).take 20) := by show _ = _; rw [HR2.out, he]; rfl
      rw [he] at hd
      obtain ⟨q, cap, rfl⟩ := hd.slice
      clear he hd HR2 KR2
      go_wp2_with fail
      refine KR3.out.mono ?_
      rintro _ V3 ⟨v3, rfl, hd, hb⟩
      have B3 := Lib.hid (B2.out.trans (hb.mono B2.out.size))
      clear hb KR3
      generalize errsR (Un.facts L) [] rs = es at *
      rcases dg_form hd with ⟨rfl, h0⟩ | ⟨g, cap3, rfl, hcap, hcm⟩
      · have HQ : Hid (DgM V3 (.slice none 0 0) (es.take 20)) := dg_none h0
        clear hd h0
        go_wp2_with fail
        go_ret
        exact ⟨_, rfl, by rw [HR3.out]; exact HQ.out, (by intro _ _ _ h; cases h; omega), B3.out⟩
      · by_cases h20 : es.length ≤ 20
        · have HQ := Lib.hid (fun c => dg_take (c := c) hd (m := es.length) (by omega))
          have hz1 : (es.length : Int) ≤ 20 := by omega
          have hz2 : ¬ (20 : Int) < (es.length : Int) := by omega
          have hz3 : (es.length : Int) ≤ (cap3 : Int) := by omega
          clear hd h20
          generalize hen : es.length = n at *
          clear hen
          go_wp2_with fail
          go_ret
          exact ⟨_, rfl, by rw [HR3.out]; exact HQ.out _, (by intro _ _ _ h; cases h; omega), B3.out⟩
        · have HQ := Lib.hid (fun c => dg_take (c := c) hd (m := 20) (by omega))
          have hz1 : ¬ (es.length : Int) ≤ 20 := by omega
          have hz2 : (20 : Int) < (es.length : Int) := by omega
          have hz3 : (20 : Int) ≤ (cap3 : Int) := by omega
          clear hd h20
          generalize hen : es.length = n at *
          clear hen
          go_wp2_with fail
          go_ret
          exact ⟨_, rfl, by rw [HR3.out]; exact HQ.out _, (by intro _ _ _ h; cases h; omega), B3.out⟩
    | cons a l =>
      have HR3 : Hid (R = (errsD [] L).take 20) := by show _ = _; rw [HR2.out, he]; rfl
      have hne : 0 < (errsD [] L).length := by rw [he]; simp
      clear he HR2 KR2
      generalize errsD [] L = es at *
      have hnz : ((es.length : Int) == 0) = false := beq_eq_false_iff_ne.2 (by omega)
      rcases dg_form hd with ⟨rfl, h0⟩ | ⟨g, cap3, rfl, hcap, hcm⟩
      · exact absurd h0 (by omega)
      · by_cases h20 : es.length ≤ 20
        · have HQ := Lib.hid (fun c => dg_take (c := c) hd (m := es.length) (by omega))
          have hz1 : (es.length : Int) ≤ 20 := by omega
          have hz2 : ¬ (20 : Int) < (es.length : Int) := by omega
          have hz3 : (es.length : Int) ≤ (cap3 : Int) := by omega
          clear hd h20
          generalize hen : es.length = n at *
          clear hen
          go_wp2_with fail
          go_ret
          exact ⟨_, rfl, by rw [HR3.out]; exact HQ.out _, (by intro _ _ _ h; cases h; omega), B2.out⟩
        · have HQ := Lib.hid (fun c => dg_take (c := c) hd (m := 20) (by omega))
          have hz1 : ¬ (es.length : Int) ≤ 20 := by omega
          have hz2 : (20 : Int) < (es.length : Int) := by omega
          have hz3 : (20 : Int) ≤ (cap3 : Int) := by omega
          clear hd h20
          generalize hen : es.length = n at *
          clear hen
          go_wp2_with fail
          go_ret
          exact ⟨_, rfl, by rw [HR3.out]; exact HQ.out _, (by intro _ _ _ h; cases h; omega), B2.out⟩
end Go.Proofs.Ytjifiijgghpniaa
/-
  Contract of the reference of units: product.
-/
namespace Go.Proofs.Ytjifiijgghpniaa
open Go.RowKit Un

set_option maxRecDepth 100000 in
set_option maxHeartbeats 8000000 in
theorem rproduct_any (s : Int) (u v : U) (w : World) (hu : sU u) (hv : sU v) (hs : s = 1 ∨ s = -1) :
    Calls Try.prog 79 #[.agg #[.bool u.f, .int .i64 u.m, .int .i64 u.a, .int .i64 u.d], .agg #[.bool v.f, .int .i64 v.m, .int .i64 v.a, .int .i64 v.d], .int .i64 s] w fun e w' => e = .returned (.tuple #[uV (mulU s u v), .bool (!u.f && !v.f && (expo (mulU s u v).m && (expo (mulU s u v).a && expo (mulU s u v).d)))]) ∧ RowKit.Below w.heap.size w w' := by
  have HQ : Hid ((mulU s u v) = ⟨false, u.m + s * v.m, u.a + s * v.a, u.d + s * v.d⟩) := rfl
  obtain ⟨uf, um, ua, ud⟩ := u
  obtain ⟨vf, vm, va, vd⟩ := v
  obtain ⟨u1, u2, u3, u4, u5, u6⟩ := hu
  obtain ⟨v1, v2, v3, v4, v5, v6⟩ := hv
  simp only at HQ u1 u2 u3 u4 u5 u6 v1 v2 v3 v4 v5 v6 ⊢
  rw [HQ.out]
  simp only
  have ma : ∃ sm, sm = s * vm ∧ -3 ≤ sm ∧ sm ≤ 3 := by rcases hs with rfl | rfl <;> exact ⟨_, rfl, by omega, by omega⟩
  have mb : ∃ sm, sm = s * va ∧ -3 ≤ sm ∧ sm ≤ 3 := by rcases hs with rfl | rfl <;> exact ⟨_, rfl, by omega, by omega⟩
  have mc : ∃ sm, sm = s * vd ∧ -3 ≤ sm ∧ sm ≤ 3 := by rcases hs with rfl | rfl <;> exact ⟨_, rfl, by omega, by omega⟩
  obtain ⟨sm, hsm, sm1, sm2⟩ := ma
  obtain ⟨sa, hsa, sa1, sa2⟩ := mb
  obtain ⟨sd, hsd, sd1, sd2⟩ := mc
  rw [← hsm, ← hsa, ← hsd]
  have ew1 : IntKind.i64.wrap (s * vm) = sm := by rw [← hsm]; exact w64 (by omega) (by omega)
  have ew2 : IntKind.i64.wrap (s * va) = sa := by rw [← hsa]; exact w64 (by omega) (by omega)
  have ew3 : IntKind.i64.wrap (s * vd) = sd := by rw [← hsd]; exact w64 (by omega) (by omega)
  obtain ⟨x, hx⟩ : ∃ x, x = um + sm := ⟨_, rfl⟩
  obtain ⟨y, hy⟩ : ∃ y, y = ua + sa := ⟨_, rfl⟩
  obtain ⟨z, hz⟩ : ∃ z, z = ud + sd := ⟨_, rfl⟩
  rw [← hx, ← hy, ← hz]
  have ew4 : IntKind.i64.wrap (um + sm) = x := by rw [← hx]; exact w64 (by omega) (by omega)
  have ew5 : IntKind.i64.wrap (ua + sa) = y := by rw [← hy]; exact w64 (by omega) (by omega)
  have ew6 : IntKind.i64.wrap (ud + sd) = z := by rw [← hz]; exact w64 (by omega) (by omega)
  have KX : Hid (∀ (w : World), Calls Try.prog 92 #[.int .i64 x] w fun e w' => e = .returned (.bool (expo x)) ∧ w' = w) := fun w => rexponent_any x w
  have KY : Hid (∀ (w : World), Calls Try.prog 92 #[.int .i64 y] w fun e w' => e = .returned (.bool (expo y)) ∧ w' = w) := fun w => rexponent_any y w
  have KZ : Hid (∀ (w : World), Calls Try.prog 92 #[.int .i64 z] w fun e w' => e = .returned (.bool (expo z)) ∧ w' = w) := fun w => rexponent_any z w
  generalize expo x = ex at *
  generalize expo y = ey at *
  generalize expo z = ez at *
  clear hx hy hz hsm hsa hsd hs u1 u2 u3 u4 u5 u6 v1 v2 v3 v4 v5 v6 HQ sm1 sm2 sa1 sa2 sd1 sd2
  go_enter Try.func79, Try.ntmps79
  go_wp2_with fail
  refine (KX.out _).mono ?_
  rintro _ _ ⟨rfl, rfl⟩
  go_wp2_with fail
  refine (KY.out _).mono ?_
  rintro _ _ ⟨rfl, rfl⟩
  go_wp2_with fail
  refine (KZ.out _).mono ?_
  rintro _ _ ⟨rfl, rfl⟩
  go_wp2_with fail
  all_goals
    exact bodyPost_ret (v := .tuple #[.agg #[.bool false, .int .i64 x, .int .i64 y, .int .i64 z], .bool (!uf && !vf && (ex && (ey && ez)))]) (by simp [results, Try.results79, go_sem, *]) rfl ⟨by simp [uV, uC], (by repeat' (first | (with_reducible refine Below.setCell ?_ ?_ _) | (with_reducible refine Below.alloc ?_ ?_ _) | (with_reducible exact Below.refl _ _) | omega | (simp; done) | (simp; omega)))⟩
end Go.Proofs.Ytjifiijgghpniaa
/-
  Contract of the reference of units: Few.
-/
namespace Go.Proofs.Ytjifiijgghpniaa
open Go.RowKit Un MapKept

def fewR (r : Ru) : Bool := decide (0 ≤ left 30 400 r.whn) && decide (0 ≤ left 30 400 r.giv) && decide (r.nm.length ≤ 100) && decide (r.act.length ≤ 100)
def fewC (L : List Dc) (rs : List Ru) : Bool := decide (L.length ≤ 20) && decide (rs.length ≤ 30) && rs.all fewR
set_option maxRecDepth 100000 in
set_option maxHeartbeats 8000000 in
theorem rFew_any (L : List Dc) (rs : List Ru) (rows : List (List Value)) (pd pr : Option Addr) (bd od cd br orr cr : Nat) (A : Nat → Prop) (w : World) (hD : SlR w pd bd od L.length 8 (L.map dC)) (hR : RsM w A pr br orr rs rows) :
    Calls Try.prog 11 #[.agg #[.slice pd L.length cd, .slice pr rs.length cr]] w fun e w' => e = .returned (.bool (fewC L rs)) ∧ RowKit.Below w.heap.size w w' := by
  have hmd := hD.max
  have hmr := hR.sl.max
  have hln := hR.sl.ln
  have HS := Lib.hid hR.sl
  have KO : Hid (∀ (i : Nat) (hi : i < rs.length) (h' : i < rows.length), ∃ x y, RuC rs[i] x y rows[i] ∧ RuM w A rs[i] x y) := hR.ru
  obtain ⟨R, hRR⟩ : ∃ R, R = fewC L rs := ⟨_, rfl⟩
  rw [← hRR]
  have HR : Hid (R = (decide (L.length ≤ 20) && decide (rs.length ≤ 30) && rs.all fewR)) := hRR
  have X1 := Lib.hid (BoxL.new w [.slice pd L.length cd, .slice pr rs.length cr] 25)
  have HB := Lib.hid ((Below.refl w.heap.size w).alloc (Nat.le_refl _) (.cells #[.slice pd L.length cd, .slice pr rs.length cr] 25))
  clear hRR hD hR
  generalize hW1 : w.alloc (.cells #[.slice pd L.length cd, .slice pr rs.length cr] 25) = W1 at *
  obtain ⟨c0, -⟩ := X1.out 0 _ rfl
  obtain ⟨c1, -⟩ := X1.out 1 _ rfl
  have hsz : W1.heap.size = w.heap.size + 1 := by rw [← hW1]; simp
  have Q1 : Hid (W1.cell? ⟨w.heap.size, 1, none⟩ = some (.slice pr rs.length cr)) := c1
  by_cases hL : 20 < L.length
  · have hz : (20 : Int) < (L.length : Int) := by omega
    rw [decide_eq_false (by omega)] at HR
    go_enter Try.func11, Try.ntmps11
    go_wp2_with fail
    all_goals
      go_ret
      exact ⟨ret_bool (by rw [HR.out]; rfl), HB.out⟩
  have hz : ¬ (20 : Int) < (L.length : Int) := by omega
  rw [decide_eq_true (by omega)] at HR
  by_cases hL3 : 30 < rs.length
  · have hz3 : (30 : Int) < (rs.length : Int) := by omega
    rw [decide_eq_false (by omega)] at HR
    go_enter Try.func11, Try.ntmps11
    go_wp2_with fail
    all_goals
      go_ret
      exact ⟨ret_bool (by rw [HR.out]; rfl), HB.out⟩
  have hz3 : ¬ (30 : Int) < (rs.length : Int) := by omega
  rw [decide_eq_true (by omega)] at HR
  go_enter Try.func11, Try.ntmps11
  go_wp2_with fail
  clear hz hz3 c0 c1 hW1 X1
  go_loopg [3] rs.length (fun g v3 wr => ∃ i : Nat, i ≤ rs.length ∧ rs.length - i ≤ g ∧ v3 = .int .i64 i ∧ Hid (R = (rs.drop i).all fewR) ∧ Hid (RowKit.Below w.heap.size w wr) ∧ Hid (RowKit.Below W1.heap.size W1 wr))
  case atStart => exact ⟨0, Nat.zero_le _, by omega, by simp, by show _ = _; rw [HR.out]; simp, HB, Below.refl _ _⟩
  case round =>
    obtain ⟨i, hi, hg, rfl, HM, HW, HV⟩ := hrel
    have q1 : wr.cell? ⟨w.heap.size, 1, none⟩ = some (.slice pr rs.length cr) := (HV.out.cell (p := ⟨w.heap.size, 1, none⟩) (by show w.heap.size < W1.heap.size; omega)).trans Q1.out
    by_cases hlt : i < rs.length
    · have hz : (i : Int) < (rs.length : Int) := by omega
      have hq := HS.out.ptr (by omega)
      subst hq
      obtain ⟨⟨xq, xc⟩, ⟨yq, yc⟩, h1, h2⟩ := KO.out i hlt (by omega)
      have E3 : Hid (R = (fewR rs[i] && (rs.drop (i + 1)).all fewR)) := by
        show _ = _
        rw [HM.out, List.drop_eq_getElem_cons hlt]
        rfl
      have HA : Hid (∀ V, RowKit.Below w.heap.size w V → ∀ j v, rows[i][j]? = some v → V.cell? ⟨br, orr + i * 28 + j, none⟩ = some v) := fun V hV => ((HS.out.bel hV).at_ i rows[i] (List.getElem?_eq_getElem (by omega))).2
      have K1 : Hid (∀ V, RowKit.Below w.heap.size w V → Calls Try.prog 12 #[nV rs[i].whn ⟨xq, xc⟩] V fun e w' => e = .returned (.bool (decide (0 ≤ left 30 400 rs[i].whn))) ∧ RowKit.Below V.heap.size V w') := fun V hV => lFewNode_any _ A _ V (NdM.bel hV h2.1)
      have K2 : Hid (∀ V, RowKit.Below w.heap.size w V → Calls Try.prog 12 #[nV rs[i].giv ⟨yq, yc⟩] V fun e w' => e = .returned (.bool (decide (0 ≤ left 30 400 rs[i].giv))) ∧ RowKit.Below V.heap.size V w') := fun V hV => lFewNode_any _ A _ V (NdM.bel hV h2.2)
      have hs : Hid (∀ (j : Nat) (v : Value), (nC rs[i].whn ⟨xq, xc⟩)[j]? = some v → rows[i][7 + j]? = some v) := h1.wh
      have ht : Hid (∀ (j : Nat) (v : Value), (nC rs[i].giv ⟨yq, yc⟩)[j]? = some v → rows[i][17 + j]? = some v) := h1.gi
      have hn0 := Lib.hid h1.f0
      have hn3 := Lib.hid h1.f3
      have E4 : Hid (fewR rs[i] = (decide (0 ≤ left 30 400 rs[i].whn) && decide (0 ≤ left 30 400 rs[i].giv) && decide (rs[i].nm.length ≤ 100) && decide (rs[i].act.length ≤ 100))) := rfl
      have sz0 : (bs rs[i].nm).size = rs[i].nm.length := bs_size _
      have sz3 : (bs rs[i].act).size = rs[i].act.length := bs_size _
      clear h1 h2 HM
      generalize fewR rs[i] = fr at *
      generalize bs rs[i].nm = s0 at *
      generalize bs rs[i].act = s3 at *
      generalize rs[i].nm.length = n0 at *
      generalize rs[i].act.length = n3 at *
      generalize rs[i].whn = wt at *
      generalize rs[i].giv = gt at *
      generalize rows[i] = l at *
      generalize left 30 400 wt = m1 at *
      generalize left 30 400 gt = m2 at *
      obtain ⟨xo, xp, xn, xx, xd, ⟨xf, xm, xa, xy⟩, xk⟩ := wt
      obtain ⟨yo, yp, yn, yx, yd, ⟨yf, ym, ya, yy⟩, yk⟩ := gt
      have e2 : IntKind.i64.wrap ((i : Int) + 1) = ((i + 1 : Nat) : Int) := by rw [IntWalk.i64_in _ (by omega)]; rfl
      simp only [nV, nC] at K1 K2 hs ht
      have z0 := HA.out _ HW.out (7 + 0) _ (hs.out 0 _ rfl)
      rw [show orr + i * 28 + (7 + 0) = orr + i * 28 + 7 by omega] at z0
      have z1 := HA.out _ HW.out (7 + 1) _ (hs.out 1 _ rfl)
      rw [show orr + i * 28 + (7 + 1) = orr + i * 28 + 7 + 1 by omega] at z1
      have z2 := HA.out _ HW.out (7 + 2) _ (hs.out 2 _ rfl)
      rw [show orr + i * 28 + (7 + 2) = orr + i * 28 + 7 + 2 by omega] at z2
      have z3 := HA.out _ HW.out (7 + 3) _ (hs.out 3 _ rfl)
      rw [show orr + i * 28 + (7 + 3) = orr + i * 28 + 7 + 3 by omega] at z3
      have z4 := HA.out _ HW.out (7 + 4) _ (hs.out 4 _ rfl)
      rw [show orr + i * 28 + (7 + 4) = orr + i * 28 + 7 + 4 by omega] at z4
      have z5 := HA.out _ HW.out (7 + 5) _ (hs.out 5 _ rfl)
      rw [show orr + i * 28 + (7 + 5) = orr + i * 28 + 7 + 5 by omega] at z5
      have z6 := HA.out _ HW.out (7 + 6) _ (hs.out 6 _ rfl)
      rw [show orr + i * 28 + (7 + 6) = orr + i * 28 + 7 + 6 by omega] at z6
      have z7 := HA.out _ HW.out (7 + 7) _ (hs.out 7 _ rfl)
      rw [show orr + i * 28 + (7 + 7) = orr + i * 28 + 7 + 7 by omega] at z7
      have z8 := HA.out _ HW.out (7 + 8) _ (hs.out 8 _ rfl)
      rw [show orr + i * 28 + (7 + 8) = orr + i * 28 + 7 + 8 by omega] at z8
      have z9 := HA.out _ HW.out (7 + 9) _ (hs.out 9 _ rfl)
      rw [show orr + i * 28 + (7 + 9) = orr + i * 28 + 7 + 9 by omega] at z9
      go_wp2_with fail
      clear z0 z1 z2 z3 z4 z5 z6 z7 z8 z9 q1
      refine (K1.out _ HW.out).mono ?_
      rintro _ v1 ⟨rfl, hb⟩
      have HW1 : Hid (RowKit.Below w.heap.size w v1) := HW.out.trans (hb.mono HW.out.size)
      have HV1 : Hid (RowKit.Below W1.heap.size W1 v1) := HV.out.trans (hb.mono HV.out.size)
      clear hb K1
      have q1 : v1.cell? ⟨w.heap.size, 1, none⟩ = some (.slice _ rs.length cr) := (HV1.out.cell (p := ⟨w.heap.size, 1, none⟩) (by show w.heap.size < W1.heap.size; omega)).trans Q1.out
      have z0 := HA.out _ HW1.out (17 + 0) _ (ht.out 0 _ rfl)
      rw [show orr + i * 28 + (17 + 0) = orr + i * 28 + 17 by omega] at z0
      have z1 := HA.out _ HW1.out (17 + 1) _ (ht.out 1 _ rfl)
      rw [show orr + i * 28 + (17 + 1) = orr + i * 28 + 17 + 1 by omega] at z1
      have z2 := HA.out _ HW1.out (17 + 2) _ (ht.out 2 _ rfl)
      rw [show orr + i * 28 + (17 + 2) = orr + i * 28 + 17 + 2 by omega] at z2
      have z3 := HA.out _ HW1.out (17 + 3) _ (ht.out 3 _ rfl)
      rw [show orr + i * 28 + (17 + 3) = orr + i * 28 + 17 + 3 by omega] at z3
      have z4 := HA.out _ HW1.out (17 + 4) _ (ht.out 4 _ rfl)
      rw [show orr + i * 28 + (17 + 4) = orr + i * 28 + 17 + 4 by omega] at z4
      have z5 := HA.out _ HW1.out (17 + 5) _ (ht.out 5 _ rfl)
      rw [show orr + i * 28 + (17 + 5) = orr + i * 28 + 17 + 5 by omega] at z5
      have z6 := HA.out _ HW1.out (17 + 6) _ (ht.out 6 _ rfl)
      rw [show orr + i * 28 + (17 + 6) = orr + i * 28 + 17 + 6 by omega] at z6
      have z7 := HA.out _ HW1.out (17 + 7) _ (ht.out 7 _ rfl)
      rw [show orr + i * 28 + (17 + 7) = orr + i * 28 + 17 + 7 by omega] at z7
      have z8 := HA.out _ HW1.out (17 + 8) _ (ht.out 8 _ rfl)
      rw [show orr + i * 28 + (17 + 8) = orr + i * 28 + 17 + 8 by omega] at z8
      have z9 := HA.out _ HW1.out (17 + 9) _ (ht.out 9 _ rfl)
      rw [show orr + i * 28 + (17 + 9) = orr + i * 28 + 17 + 9 by omega] at z9
      go_wp2_with fail
      clear z0 z1 z2 z3 z4 z5 z6 z7 z8 z9 q1
      refine (K2.out _ HW1.out).mono ?_
      rintro _ v2 ⟨rfl, hb⟩
      have HW2 : Hid (RowKit.Below w.heap.size w v2) := HW1.out.trans (hb.mono HW1.out.size)
      have HV2 : Hid (RowKit.Below W1.heap.size W1 v2) := HV1.out.trans (hb.mono HV1.out.size)
      clear hb K2
      have q1 : v2.cell? ⟨w.heap.size, 1, none⟩ = some (.slice _ rs.length cr) := (HV2.out.cell (p := ⟨w.heap.size, 1, none⟩) (by show w.heap.size < W1.heap.size; omega)).trans Q1.out
      have y0 : v2.cell? ⟨br, orr + i * 28, none⟩ = some (.string s0) := HA.out _ HW2.out 0 _ hn0.out
      have y3 : v2.cell? ⟨br, orr + i * 28 + 3, none⟩ = some (.string s3) := HA.out _ HW2.out 3 _ hn3.out
      clear hs ht HA
      have E5 : Hid (R = ((decide (0 ≤ m1) && decide (0 ≤ m2) && decide (n0 ≤ 100) && decide (n3 ≤ 100)) && (rs.drop (i + 1)).all fewR)) := by show _ = _; rw [E3.out, E4.out]
      clear E3 E4
      generalize decide (0 ≤ m1) = d1 at *
      generalize decide (0 ≤ m2) = d2 at *
      go_wp2_with fail
      all_goals first
        | (go_ret
           exact ⟨ret_bool (by
             rw [E5.out]
             cases d1 <;> cases d2 <;> by_cases g0 : n0 ≤ 100 <;> by_cases g3 : n3 ≤ 100 <;> first | (simp [g0, g3]; done) | (exfalso; first | contradiction | omega | simp_all; done)), HW2.out⟩)
        | (go_roundg (rs.length - (i + 1))
           case measure => omega
           case rel =>
             refine ⟨i + 1, by omega, Nat.le_refl _, by simp, ?_, HW2, HV2⟩
             show _ = _
             rw [E5.out]
             cases d1 <;> cases d2 <;> by_cases g0 : n0 ≤ 100 <;> by_cases g3 : n3 ≤ 100 <;> first | (simp [g0, g3]; done) | (exfalso; first | contradiction | omega | simp_all; done))
    · have hz : ¬ (i : Int) < (rs.length : Int) := by omega
      have hie : i = rs.length := by omega
      subst hie
      go_wp2_with fail
      go_ret
      exact ⟨ret_bool (by rw [HM.out, List.drop_length]; rfl), HW.out⟩
end Go.Proofs.Ytjifiijgghpniaa
/-
  Contracts of the reference of units: Scoped, Codex.
-/
namespace Go.Proofs.Ytjifiijgghpniaa
open Go.RowKit Un MapKept

set_option maxRecDepth 100000 in
set_option maxHeartbeats 8000000 in
theorem rCodex_any (L : List Dc) (rs : List Ru) (rows : List (List Value)) (pd pr : Option Addr) (bd od cd br orr cr : Nat) (A : Nat → Prop) (w : World) (hD : SlR w pd bd od L.length 8 (L.map dC)) (hR : RsM w A pr br orr rs rows) :
    Calls Try.prog 26 #[.agg #[.slice pd L.length cd, .slice pr rs.length cr]] w fun e w' => e = .returned (.bool (formC vld L rs)) ∧ RowKit.Below w.heap.size w w' := by
  have hmd := hD.max
  have hmr := hR.sl.max
  have hln := hR.sl.ln
  have HS := Lib.hid hR.sl
  have KF := Lib.hid (fun V (hV : RowKit.Below w.heap.size w V) => rformed_any L pd bd od cd V (hD.bel hV))
  have KO : Hid (∀ (i : Nat) (hi : i < rs.length) (h' : i < rows.length), ∃ x y, RuC rs[i] x y rows[i] ∧ RuM w A rs[i] x y) := hR.ru
  have KN : Hid (∀ r ∈ rs, RuN r) := hR.nn
  obtain ⟨R, hRR⟩ : ∃ R, R = formC vld L rs := ⟨_, rfl⟩
  rw [← hRR]
  have HR : Hid (R = (formD L && decide (rs.length ≤ 100) && rs.all (formR vld))) := hRR
  have X1 := Lib.hid (BoxL.new w [.slice pd L.length cd, .slice pr rs.length cr] 25)
  have HB := Lib.hid ((Below.refl w.heap.size w).alloc (Nat.le_refl _) (.cells #[.slice pd L.length cd, .slice pr rs.length cr] 25))
  clear hRR hD hR
  generalize formD L = fd at *
  generalize L.length = m at *
  generalize hW1 : w.alloc (.cells #[.slice pd m cd, .slice pr rs.length cr] 25) = W1 at *
  obtain ⟨c0, -⟩ := X1.out 0 _ rfl
  have hsz : W1.heap.size = w.heap.size + 1 := by rw [← hW1]; simp
  go_enter Try.func26, Try.ntmps26
  go_wp2_with fail
  clear hW1 c0
  refine (KF.out _ HB.out).mono ?_
  rintro _ V1 ⟨rfl, hb⟩
  have BB := Lib.hid (HB.out.trans (hb.mono HB.out.size))
  replace X1 := Lib.hid (X1.out.bel (by simp) hb)
  have hs1 := hb.size
  clear hb KF HB
  cases fd with
  | false =>
    go_wp2_with fail
    go_ret
    exact ⟨ret_bool (by rw [HR.out]; rfl), BB.out⟩
  | true =>
    obtain ⟨c1, -⟩ := X1.out 1 _ rfl
    by_cases hL : 100 < rs.length
    · have hz : (100 : Int) < (rs.length : Int) := by omega
      go_wp2_with fail
      go_ret
      exact ⟨ret_bool (by rw [HR.out, decide_eq_false (by omega)]; rfl), BB.out⟩
    have hz : ¬ (100 : Int) < (rs.length : Int) := by omega
    have HR1 : Hid (R = rs.all (formR vld)) := by show _ = _; rw [HR.out, decide_eq_true (by omega)]; simp
    go_wp2_with fail
    clear hz c1 HR
    go_loopg [4] rs.length (fun g v4 wr => ∃ i : Nat, i ≤ rs.length ∧ rs.length - i ≤ g ∧ v4 = .int .i64 i ∧ Hid (R = (rs.drop i).all (formR vld)) ∧ Hid (RowKit.Below w.heap.size w wr) ∧ Hid (BoxL wr w.heap.size [.slice pd m cd, .slice pr rs.length cr]))
    case atStart => exact ⟨0, Nat.zero_le _, by omega, by simp, by show _ = _; rw [HR1.out]; simp, BB, X1⟩
    clear BB X1
    case round =>
      obtain ⟨i, hi, hg, rfl, HM, BB, X1⟩ := hrel
      obtain ⟨q1, -⟩ := X1.out 1 _ rfl
      by_cases hlt : i < rs.length
      · have hz : (i : Int) < (rs.length : Int) := by omega
        have hq := HS.out.ptr (by omega)
        subst hq
        obtain ⟨⟨xq, xc⟩, ⟨yq, yc⟩, h1, h2⟩ := KO.out i hlt (by omega)
        have hrn := KN.out rs[i] (List.getElem_mem _)
        have E3 : Hid (R = (formR vld rs[i] && (rs.drop (i + 1)).all (formR vld))) := by
          show _ = _
          rw [HM.out, List.drop_eq_getElem_cons hlt]
          rfl
        have HA : Hid (∀ V, RowKit.Below w.heap.size w V → ∀ j v, rows[i][j]? = some v → V.cell? ⟨br, orr + i * 28 + j, none⟩ = some v) := fun V hV => ((HS.out.bel hV).at_ i rows[i] (List.getElem?_eq_getElem (by omega))).2
        have K1 := Lib.hid (fun V (hV : RowKit.Below w.heap.size w V) => rForm_any rs[i].whn hrn.1 A ⟨xq, xc⟩ V (NdM.bel hV h2.1))
        have K2 := Lib.hid (fun V (hV : RowKit.Below w.heap.size w V) => rForm_any rs[i].giv hrn.2 A ⟨yq, yc⟩ V (NdM.bel hV h2.2))
        have N1 := Lib.hid (rName_any rs[i].nm)
        have N2 := Lib.hid (rName_any rs[i].act)
        have hs := Lib.hid h1.wh
        have ht := Lib.hid h1.gi
        have hl := h1.len
        have hn0 := Lib.hid h1.f0
        have hn2 := Lib.hid h1.f2
        have hn3 := Lib.hid h1.f3
        have E4 : Hid (formR vld rs[i] = (decide (1 ≤ rs[i].kind) && decide (rs[i].kind ≤ 7) && isName rs[i].nm && (rs[i].act.isEmpty || isName rs[i].act) && form vld rs[i].whn && form vld rs[i].giv)) := rfl
        have e3 := nm_test rs[i].act
        have hone : ∀ u ∈ rows[i], u.oneCell' = true := h1.one
        clear h1 h2 HM hrn
        generalize formR vld rs[i] = fr at *
        generalize isName rs[i].nm = a1 at *
        generalize isName rs[i].act = a2 at *
        generalize rs[i].act.isEmpty = em at *
        generalize form vld rs[i].whn = fw at *
        generalize form vld rs[i].giv = fg at *
        generalize bs rs[i].nm = s0 at *
        generalize bs rs[i].act = s3 at *
        generalize rs[i].kind = kd at *
        generalize rs[i].whn = wt at *
        generalize rs[i].giv = gt at *
        generalize rows[i] = l at *
        have hpl : 0 < l.length := by omega
        have e2 : IntKind.i64.wrap ((i : Int) + 1) = ((i + 1 : Nat) : Int) := by rw [IntWalk.i64_in _ (by omega)]; rfl
        obtain ⟨b5, hb5⟩ : ∃ b, b = wr.heap.size := ⟨_, rfl⟩
        go_wp2_with (first | ((with_reducible show wpList _ _ _ ({ dst := some 32, op := _, type := _, pos := _, after := _, guard := _ } :: _) _ _); refine wl_loadP rfl rfl rfl (load_rule _ _ _ l hl (HA.out _ BB.out)) ?_; simp only [Act.put, List.setIfInBounds_toArray, List.set_cons_zero, List.set_cons_succ]) | ((with_reducible show wpList _ _ _ ({ dst := some 5, op := _, type := _, pos := _, after := _, guard := _ } :: _) _ _); refine wl_rbox (L := l) rfl rfl rfl rfl hl hone rfl rfl ?_; intro U1 hb hs5 hx; replace BB := Lib.hid (BB.out.trans (hb.mono BB.out.size)); replace X1 := Lib.hid (X1.out.bel (by simp) hb); have X5 := Lib.hid hx; clear hb hx hs5 q1; simp only [Act.put, List.setIfInBounds_toArray, List.set_cons_zero, List.set_cons_succ]; rw [← hb5] at X5 ⊢; clear hb5; obtain ⟨p0, -⟩ := X5.out 0 _ hn0.out))
        refine (N1.out _).mono ?_
        rintro _ U2 ⟨rfl, hb⟩
        replace BB := Lib.hid (BB.out.trans (hb.mono BB.out.size))
        replace X1 := Lib.hid (X1.out.bel (by simp) hb)
        replace X5 := Lib.hid (X5.out.bel hpl hb)
        clear hb N1 p0
        obtain ⟨p3, -⟩ := X5.out 3 _ hn3.out
        go_wp2_with fail
        refine (N2.out _).mono ?_
        rintro _ U3 ⟨rfl, hb⟩
        replace BB := Lib.hid (BB.out.trans (hb.mono BB.out.size))
        replace X1 := Lib.hid (X1.out.bel (by simp) hb)
        replace X5 := Lib.hid (X5.out.bel hpl hb)
        clear hb N2 p3
        go_wp2_with ((with_reducible show wpList _ _ _ ({ dst := some 40, op := _, type := _, pos := _, after := _, guard := _ } :: _) _ _); refine wl_loadP rfl rfl rfl (load_rowAt 32 10 (by kernel_rfl) (by kernel_rfl) _ _ 7 (nC wt ⟨xq, xc⟩) (nC_len _ _) (fun j v hv => (X5.out (7 + j) v (hs.out j v hv)).1)) ?_; simp only [Act.put, List.setIfInBounds_toArray, List.set_cons_zero, List.set_cons_succ])
        refine (K1.out _ BB.out).mono ?_
        rintro _ U4 ⟨rfl, hb⟩
        replace BB := Lib.hid (BB.out.trans (hb.mono BB.out.size))
        replace X1 := Lib.hid (X1.out.bel (by simp) hb)
        replace X5 := Lib.hid (X5.out.bel hpl hb)
        clear hb K1
        go_wp2_with ((with_reducible show wpList _ _ _ ({ dst := some 43, op := _, type := _, pos := _, after := _, guard := _ } :: _) _ _); refine wl_loadP rfl rfl rfl (load_rowAt 32 10 (by kernel_rfl) (by kernel_rfl) _ _ 17 (nC gt ⟨yq, yc⟩) (nC_len _ _) (fun j v hv => (X5.out (17 + j) v (ht.out j v hv)).1)) ?_; simp only [Act.put, List.setIfInBounds_toArray, List.set_cons_zero, List.set_cons_succ])
        refine (K2.out _ BB.out).mono ?_
        rintro _ U5 ⟨rfl, hb⟩
        replace BB := Lib.hid (BB.out.trans (hb.mono BB.out.size))
        replace X1 := Lib.hid (X1.out.bel (by simp) hb)
        replace X5 := Lib.hid (X5.out.bel hpl hb)
        clear hb K2
        obtain ⟨p3, -⟩ := X5.out 3 _ hn3.out
        obtain ⟨p2, -⟩ := X5.out 2 _ hn2.out
        have E5 : Hid (R = ((decide (1 ≤ kd) && decide (kd ≤ 7) && a1 && (em || a2) && fw && fg) && (rs.drop (i + 1)).all (formR vld))) := by show _ = _; rw [E3.out, E4.out]
        clear E3 E4 hs ht HA hn0 hn2 hn3 hone
        by_cases k1 : kd < 1
        · have E6 : Hid (R = false) := by show _ = _; rw [E5.out, decide_eq_false (by omega)]; rfl
          cases a1 <;> cases a2 <;> cases em <;> (go_wp2_with fail; go_ret; exact ⟨ret_bool E6.out.symm, BB.out⟩)
        by_cases k7 : 7 < kd
        · have E6 : Hid (R = false) := by show _ = _; rw [E5.out, decide_eq_false (p := kd ≤ 7) (by omega)]; simp
          cases a1 <;> cases a2 <;> cases em <;> (go_wp2_with fail; go_ret; exact ⟨ret_bool E6.out.symm, BB.out⟩)
        rw [decide_eq_true (show 1 ≤ kd by omega), decide_eq_true (show kd ≤ 7 by omega)] at E5
        cases a1 with
        | false =>
          have E6 : Hid (R = false) := by show _ = _; rw [E5.out]; rfl
          go_wp2_with fail
          go_ret
          exact ⟨ret_bool E6.out.symm, BB.out⟩
        | true =>
          cases fw with
          | false =>
            have E6 : Hid (R = false) := by show _ = _; rw [E5.out]; simp
            cases a2 <;> cases em <;> (go_wp2_with fail; go_ret; exact ⟨ret_bool E6.out.symm, BB.out⟩)
          | true =>
            cases fg with
            | false =>
              have E6 : Hid (R = false) := by show _ = _; rw [E5.out]; simp
              cases a2 <;> cases em <;> (go_wp2_with fail; go_ret; exact ⟨ret_bool E6.out.symm, BB.out⟩)
            | true =>
              cases a2 <;> cases em
              · have E6 : Hid (R = false) := by show _ = _; rw [E5.out]; rfl
                go_wp2_with fail
                go_ret
                exact ⟨ret_bool E6.out.symm, BB.out⟩
              all_goals
                have E6 : Hid (R = (rs.drop (i + 1)).all (formR vld)) := by show _ = _; rw [E5.out]; simp
                go_wp2_with fail
                all_goals
                  go_roundg (rs.length - (i + 1))
                  case measure => omega
                  case rel => exact ⟨i + 1, by omega, Nat.le_refl _, by simp, E6, BB, X1⟩
      · have hz : ¬ (i : Int) < (rs.length : Int) := by omega
        have hie : i = rs.length := by omega
        subst hie
        go_wp2_with fail
        go_ret
        exact ⟨ret_bool (by rw [HM.out, List.drop_length]; rfl), BB.out⟩
end Go.Proofs.Ytjifiijgghpniaa
/-
  The walk of the law on beginnings.
-/
namespace Go.Proofs.Ytjifiijgghpniaa
open Go.RowKit Un MapKept

theorem alloc_codex (w : World) : (Instr.alloc 25 true (.tuple #[])).run Try.prog w = .ok (.pointer (some ⟨w.heap.size, 0, none⟩)) (w.alloc (.cells ([.slice none 0 0, .slice none 0 0] : List Value).toArray 25)) := by kernel_rfl
theorem check_len (L : List Dc) (rs : List Ru) : (checkV vld L rs).length ≤ 20 := by
  unfold checkV
  split
  · simp
  · split <;> (rw [List.length_take]; omega)
set_option maxRecDepth 100000 in
set_option maxHeartbeats 8000000 in
theorem beginnings_law (L : List Dc) (rs : List Ru) (rows : List (List Value)) (pd pr : Option Addr) (bd od cd br orr cr : Nat) (A : Nat → Prop) (w : World) (hcr : rs.length ≤ cr) (hD : SlR w pd bd od L.length 8 (L.map dC)) (hR : RsM w A pr br orr rs rows) :
    Calls Try.prog 8 #[.agg #[.slice pd L.length cd, .slice pr rs.length cr]] w fun e w' => e = .returned (.bool true) ∧ RowKit.Below w.heap.size w w' := by
  have hmr := hR.sl.max
  have KF := Lib.hid (fun V (hV : RowKit.Below w.heap.size w V) => rFew_any L rs rows pd pr bd od cd br orr cr A V (hD.bel hV) (hR.bel hV))
  have KC := Lib.hid (fun V (hV : RowKit.Below w.heap.size w V) => rCodex_any L rs rows pd pr bd od cd br orr cr A V (hD.bel hV) (hR.bel hV))
  have K1 := Lib.hid (fun V (hV : RowKit.Below w.heap.size w V) => uCheckC_any L rs rows pd pr bd od cd br orr cr A V (hD.bel hV) (hR.bel hV))
  obtain ⟨k, hk⟩ : ∃ k, k = rs.length - 1 := ⟨_, rfl⟩
  have hkl : (rs.take k).length = k := by rw [List.length_take]; omega
  have K2 : Hid (∀ V, RowKit.Below w.heap.size w V → Calls Try.prog 18 #[.agg #[.slice pd L.length cd, .slice pr k cr]] V fun e w' => ∃ v, e = .returned v ∧ DgM w' v (checkV vld L (rs.take k)) ∧ (∀ p n c, v = .slice p n c → n ≤ c) ∧ RowKit.Below V.heap.size V w') := fun V hV => by
    have := uCheckC_any L (rs.take k) (rows.take k) pd pr bd od cd br orr cr A V (hD.bel hV) ((hR.bel hV).take k (by omega))
    rw [hkl] at this
    exact this
  have HB : Hid (formC vld L rs = true → 0 < rs.length → ∃ t, checkV vld L rs = checkV vld L (rs.take k) ++ t ∧ t.length ≤ 1) := fun hf h0 => by
    have e : rs = rs.take k ++ [rs[k]'(by omega)] := by
      rw [List.take_append_getElem, show k + 1 = rs.length by omega, List.take_length]
    have := (beginnings (ds := L) (rs := rs.take k) (r := rs[k]'(by omega)) (by rw [← e]; exact hf)).2
    rwa [← e] at this
  have hc20 := check_len L (rs.take k)
  clear hD hR hkl
  generalize checkV vld L rs = cB at *
  generalize checkV vld L (rs.take k) = cA at *
  generalize formC vld L rs = fc at *
  generalize fewC L rs = few at *
  generalize L.length = m at *
  generalize rs.length = n at *
  have X1 := Lib.hid (BoxL.new w [.slice pd m cd, .slice pr n cr] 25)
  have BB := Lib.hid ((Below.refl w.heap.size w).alloc (Nat.le_refl _) (.cells #[.slice pd m cd, .slice pr n cr] 25))
  have hsz : (w.alloc (.cells #[.slice pd m cd, .slice pr n cr] 25)).heap.size = w.heap.size + 1 := by simp
  generalize hW1 : w.alloc (.cells #[.slice pd m cd, .slice pr n cr] 25) = W1 at *
  go_enter Try.func8, Try.ntmps8
  go_wp2_with fail
  clear hW1
  refine (lhead_any _).mono ?_
  rintro _ V1 ⟨rfl, hb⟩
  have hz1 := hb.size
  replace BB := Lib.hid (BB.out.trans (hb.mono BB.out.size))
  replace X1 := Lib.hid (X1.out.bel (by simp) hb)
  clear hb
  go_wp2_with ((with_reducible show wpList _ _ _ ({ dst := some 8, op := _, type := _, pos := _, after := _, guard := _ } :: _) _ _); refine wl_loadP rfl rfl rfl (load_row 25 2 (by kernel_rfl) (by kernel_rfl) _ _ [.slice pd m cd, .slice pr n cr] rfl (fun j v hv => (X1.out j v hv).1)) ?_; simp only [Act.put, List.setIfInBounds_toArray, List.set_cons_zero, List.set_cons_succ])
  refine (KF.out _ BB.out).mono ?_
  rintro _ V2 ⟨rfl, hb⟩
  replace hz1 := Nat.le_trans hz1 hb.size
  replace BB := Lib.hid (BB.out.trans (hb.mono BB.out.size))
  replace X1 := Lib.hid (X1.out.bel (by simp) hb)
  clear hb KF
  cases few with
  | false =>
    go_wp2_with fail
    go_ret
    exact ⟨rfl, BB.out⟩
  | true =>
    go_wp2_with ((with_reducible show wpList _ _ _ ({ dst := some 12, op := _, type := _, pos := _, after := _, guard := _ } :: _) _ _); refine wl_loadG (by first | rfl | (rw [hd]; rfl) | (simp [Region.wanted, yielded, hd]; done)) rfl rfl (load_row 25 2 (by kernel_rfl) (by kernel_rfl) _ _ [.slice pd m cd, .slice pr n cr] rfl (fun j v hv => (X1.out j v hv).1)) ?_; simp only [Act.put, List.setIfInBounds_toArray, List.set_cons_zero, List.set_cons_succ])
    refine (KC.out _ BB.out).mono ?_
    rintro _ V3 ⟨rfl, hb⟩
    replace hz1 := Nat.le_trans hz1 hb.size
    replace BB := Lib.hid (BB.out.trans (hb.mono BB.out.size))
    replace X1 := Lib.hid (X1.out.bel (by simp) hb)
    clear hb KC
    cases fc with
    | false =>
      go_wp2_with fail
      go_ret
      exact ⟨rfl, BB.out⟩
    | true =>
      obtain ⟨c1, -⟩ := X1.out 1 _ rfl
      by_cases h0 : n = 0
      · subst h0
        go_wp2_with fail
        go_ret
        exact ⟨rfl, BB.out⟩
      have hn0 : ¬ (n : Int) = 0 := by omega
      have hnb : ((n : Int) == 0) = false := beq_eq_false_iff_ne.2 hn0
      obtain ⟨t, hcb, ht⟩ := HB.out rfl (by omega)
      have HCB := Lib.hid hcb
      clear hcb HB
      have ek : IntKind.i64.wrap ((n : Int) - 1) = (k : Int) := by rw [IntWalk.i64_in _ (by omega)]; omega
      have kc : (k : Int) ≤ (cr : Int) := by omega
      have k0 : ¬ (k : Int) < 0 := by omega
      clear hk
      go_wp2_with fail
      clear c1
      rename_i hKrest
      have hb := (Below.refl V3.heap.size V3).drew
      replace BB := Lib.hid (BB.out.trans (hb.mono BB.out.size))
      replace X1 := Lib.hid (X1.out.bel (by simp) hb)
      have hS : Hid (BoxL V3.drew w.heap.size [.slice pd m cd, .slice pr n cr]) := X1
      refine wp_region_held (S := fun w' : World => Hid (BoxL w' w.heap.size [.slice pd m cd, .slice pr n cr])) mixed ?_
      change wpAnyH _ _ _ _ _ _ _ _ V3.drew
      clear hb
      generalize V3.drew = U1 at *
      refine tk0 (v := ?_) (by kernel_rfl) (by kernel_rfl) (by kernel_rfl) (fun _ _ _ h => h) (Or.inl ⟨by rfl, ?_⟩) hS ?_
      rotate_left
      · (intro w hSw; (try dsimp only at hSw); go_simp; try with_reducible rfl)
      simp only [Act.put, List.setIfInBounds_toArray, List.set_cons_zero, List.set_cons_succ]
      refine tk1 (v := ?_) (by kernel_rfl) (by kernel_rfl) (by kernel_rfl) (fun _ _ _ h => h) (Or.inl ⟨by rfl, ?_⟩) hS ?_
      rotate_left
      · intro w' hSw; obtain ⟨s0, -⟩ := hSw.out 0 _ rfl; go_simp; try with_reducible rfl
      simp only [Act.put, List.setIfInBounds_toArray, List.set_cons_zero, List.set_cons_succ]
      refine tk2 (v := ?_) (by kernel_rfl) (by kernel_rfl) (by kernel_rfl) (fun _ _ _ h => h) (Or.inl ⟨by rfl, ?_⟩) hS ?_
      rotate_left
      · (intro w hSw; (try dsimp only at hSw); go_simp; try with_reducible rfl)
      simp only [Act.put, List.setIfInBounds_toArray, List.set_cons_zero, List.set_cons_succ]
      refine tk3 (v := ?_) (by kernel_rfl) (by kernel_rfl) (by kernel_rfl) (fun _ _ _ h => h) (Or.inl ⟨by rfl, ?_⟩) hS ?_
      rotate_left
      · intro w' hSw; obtain ⟨s1, -⟩ := hSw.out 1 _ rfl; go_simp; try with_reducible rfl
      simp only [Act.put, List.setIfInBounds_toArray, List.set_cons_zero, List.set_cons_succ]
      refine tk4 (v := ?_) (by kernel_rfl) (by kernel_rfl) (by kernel_rfl) (fun _ _ _ h => h) (Or.inl ⟨by rfl, ?_⟩) hS ?_
      rotate_left
      · (intro w hSw; (try dsimp only at hSw); go_simp; try with_reducible rfl)
      simp only [Act.put, List.setIfInBounds_toArray, List.set_cons_zero, List.set_cons_succ]
      refine tk5 (v := ?_) (by kernel_rfl) (by kernel_rfl) (by kernel_rfl) (fun _ _ _ h => h) (Or.inl ⟨by rfl, ?_⟩) hS ?_
      rotate_left
      · intro w' hSw; obtain ⟨s1, -⟩ := hSw.out 1 _ rfl; go_simp; try with_reducible rfl
      simp only [Act.put, List.setIfInBounds_toArray, List.set_cons_zero, List.set_cons_succ]
      refine tk6 (v := ?_) (by kernel_rfl) (by kernel_rfl) (by kernel_rfl) (fun _ _ _ h => h) (Or.inl ⟨by rfl, ?_⟩) hS ?_
      rotate_left
      · (intro w hSw; (try dsimp only at hSw); go_simp; try with_reducible rfl)
      simp only [Act.put, List.setIfInBounds_toArray, List.set_cons_zero, List.set_cons_succ]
      refine tk7 (v := .int .i64 (k : Nat)) (by kernel_rfl) (by kernel_rfl) (by kernel_rfl) (fun _ _ _ h => h) (Or.inl ⟨by rfl, ?_⟩) hS ?_
      · intro w' hSw
        go_simp; first | done | exact ek
      simp only [Act.put, List.setIfInBounds_toArray, List.set_cons_zero, List.set_cons_succ]
      refine tk8 (v := .slice pr k cr) (by kernel_rfl) (by kernel_rfl) (by kernel_rfl) (fun _ _ _ h => h) (Or.inl ⟨by rfl, ?_⟩) hS ?_
      · intro w' hSw
        go_simp; first | done | with_reducible rfl | (simp [kc, k0]; done) | trace_state
      simp only [Act.put, List.setIfInBounds_toArray, List.set_cons_zero, List.set_cons_succ]
      refine tk9 (v := .agg #[.slice pd m cd, .slice pr k cr]) (by kernel_rfl) (by kernel_rfl) (by kernel_rfl) (fun _ _ _ h => h) (Or.inl ⟨by rfl, ?_⟩) hS ?_
      · intro w' hSw
        go_simp; first | done | with_reducible rfl | rfl | trace_state
      simp only [Act.put, List.setIfInBounds_toArray, List.set_cons_zero, List.set_cons_succ]
      refine wpAnyH_ready (rs := [10]) (by kernel_rfl) (by simp) (st10 (fun K hK => ?_) AllReadyH.nil)
      refine (if_pos (by kernel_rfl)).mpr ?_
      refine wp_alloc rfl (alloc_codex _) ?_
      have hb := (Below.refl U1.heap.size U1).alloc (Nat.le_refl _) (.cells ([.slice none 0 0, .slice none 0 0] : List Value).toArray 25)
      have D := Lib.hid (BoxL.new U1 [.slice none 0 0, .slice none 0 0] 25)
      obtain ⟨U2, hU2⟩ : ∃ V, U1.alloc (.cells ([.slice none 0 0, .slice none 0 0] : List Value).toArray 25) = V := ⟨_, rfl⟩
      rw [hU2] at hb D ⊢
      clear hU2
      obtain ⟨b4, hb4⟩ : ∃ b, b = U1.heap.size := ⟨_, rfl⟩
      rw [← hb4] at D ⊢
      have hbl : w.heap.size ≤ b4 := by rw [hb4]; exact BB.out.size
      have q1 : w.heap.size < b4 := by rw [hb4]; exact X1.out.lt (by simp)
      clear hb4
      replace BB := Lib.hid (BB.out.trans (hb.mono BB.out.size))
      replace X1 := Lib.hid (X1.out.bel (by simp) hb)
      have hS : Hid (BoxL U2 w.heap.size [.slice pd m cd, .slice pr n cr]) := X1
      clear hb
      refine hK.out _ _ ?_ (fun hHeld => ?_)
      · exact hS
      clear hK K
      try simp only [Act.put, List.setIfInBounds_toArray, List.set_cons_zero, List.set_cons_succ]
      refine wpAnyH_ready (rs := [11]) (by kernel_rfl) (by simp) (st11 (fun K hK => ?_) AllReadyH.nil)
      refine (if_pos (by kernel_rfl)).mpr ?_
      refine wp_store rfl rfl rfl (store_row 25 2 (by kernel_rfl) U2 b4 [.slice none 0 0, .slice none 0 0] [.slice pd m cd, .slice pr k cr] D.out rfl rfl (by simp [Value.oneCell'])) ?_
      replace D := Lib.hid (D.out.cells (L := [.slice pd m cd, .slice pr k cr]) rfl)
      have hk := kept_setCells (b := b4) (w := U2) [.slice pd m cd, .slice pr k cr] 0 U2 (Kept.refl _ _)
      replace BB := Lib.hid (below_kept BB.out hk hbl)
      replace X1 := Lib.hid (X1.out.call (by simp) hk (by omega))
      have hS : Hid (BoxL _ w.heap.size [.slice pd m cd, .slice pr n cr]) := X1
      clear hk
      generalize U2.setCells b4 0 [.slice pd m cd, .slice pr k cr] = U3 at *
      refine hK.out _ _ ?_ (fun hHeld => ?_)
      · exact hS
      clear hK K
      try simp only [Act.put]
      refine wpAnyH_done (by kernel_rfl) ?_ _
      clear hS hHeld
      refine hKrest _ _ ?_
      clear hKrest
      go_wp2_with ((with_reducible show wpList _ _ _ ({ dst := some 33, op := _, type := _, pos := _, after := _, guard := _ } :: _) _ _); refine wl_loadP rfl rfl rfl (load_row 25 2 (by kernel_rfl) (by kernel_rfl) _ _ [.slice pd m cd, .slice pr k cr] rfl (fun j v hv => (D.out j v hv).1)) ?_; simp only [Act.put, List.setIfInBounds_toArray, List.set_cons_zero, List.set_cons_succ])
      refine (K2.out _ BB.out).mono ?_
      rintro _ V5 ⟨va, rfl, ha, hca, hb⟩
      have HAA := Lib.hid ha
      clear ha
      replace BB := Lib.hid (BB.out.trans (hb.mono BB.out.size))
      replace X1 := Lib.hid (X1.out.bel (by simp) hb)
      replace D := Lib.hid (D.out.bel (by simp) hb)
      clear hb K2
      go_wp2_with ((with_reducible show wpList _ _ _ ({ dst := some 35, op := _, type := _, pos := _, after := _, guard := _ } :: _) _ _); refine wl_loadP rfl rfl rfl (load_row 25 2 (by kernel_rfl) (by kernel_rfl) _ _ [.slice pd m cd, .slice pr n cr] rfl (fun j v hv => (X1.out j v hv).1)) ?_; simp only [Act.put, List.setIfInBounds_toArray, List.set_cons_zero, List.set_cons_succ])
      refine (K1.out _ BB.out).mono ?_
      rintro _ V6 ⟨vb, rfl, hbb, hcb, hb⟩
      replace HAA := Lib.hid (HAA.out.bel hb)
      replace BB := Lib.hid (BB.out.trans (hb.mono BB.out.size))
      replace X1 := Lib.hid (X1.out.bel (by simp) hb)
      replace D := Lib.hid (D.out.bel (by simp) hb)
      clear hb K1
      obtain ⟨pa, ba, ca, rfl, hsa⟩ := HAA.out
      obtain ⟨pb, bb, cb, rfl, hsb⟩ := hbb
      have hlb := hcb _ _ _ rfl
      have hle : cA.length ≤ cB.length ∧ cB.length ≤ cA.length + 1 := by rw [HCB.out, List.length_append]; omega
      have HT : Hid (DgM V6 (.slice pb cA.length cb) cA) := by
        refine ⟨pb, bb, cb, rfl, ?_⟩
        have := hsb.take cA.length hle.1
        rw [← List.map_take, HCB.out, List.take_left] at this
        exact this
      have KS := Lib.hid (rSame_any cA cA _ _ V6 HAA.out HT.out)
      have hma := hsa.max
      have hmb := hsb.max
      clear hsa hsb hca hcb HT HAA HCB
      generalize hna : cA.length = na at *
      generalize hnb : cB.length = nb at *
      clear hna hnb
      have e1 : (na : Int) ≤ (nb : Int) := by omega
      have e2 : (nb : Int) ≤ (na : Int) + 1 := by omega
      have e3 : (na : Int) ≤ (cb : Int) := by omega
      have e4 : ¬ (na : Int) < 0 := by omega
      have e5 : IntKind.i64.wrap ((na : Int) + 1) = (na : Int) + 1 := IntWalk.i64_in _ (by omega)
      go_wp2_with fail
      refine KS.out.mono ?_
      rintro _ V7 ⟨rfl, hb⟩
      replace BB := Lib.hid (BB.out.trans (hb.mono BB.out.size))
      clear hb KS
      go_wp2_with fail
      go_ret
      exact ⟨ret_bool (by simp), BB.out⟩
end Go.Proofs.Ytjifiijgghpniaa
