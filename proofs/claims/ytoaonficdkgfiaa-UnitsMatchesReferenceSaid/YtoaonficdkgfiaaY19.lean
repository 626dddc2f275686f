/- Texts on units: UChe RNam -/
import Derived.Test.YtoaonficdkgfiaaY18
namespace Go.Proofs.Ytoaonficdkgfiaa
open Go.RowKit Un MapKept

/-- A slice of errors in memory. -/
def DgM (w : World) (v : Value) (l : List (Int × Int)) : Prop := ∃ p b cap, v = .slice p l.length cap ∧ SlR w p b 0 l.length 2 (l.map gC)
theorem flatMap_flat (l : List (Int × Int)) : l.flatMap gC = (l.map gC).flatten := by simp [List.flatMap]
theorem DgO.dm {w : World} {base : Nat} {v : Value} {l : List (Int × Int)} (h : DgO w base v l) : DgM w v l := by
 have ho := h.own
 rw [flatMap_flat] at ho
 have e : (l.map gC).length = l.length := List.length_map ..
 rw [← e] at ho
 obtain ⟨p, b, cap, rfl, hs⟩ := own_slr ho (fun x hx => by obtain ⟨y, -, rfl⟩ := List.mem_map.1 hx; rfl)
 rw [e] at hs
 exact ⟨p, b, cap, by rw [e], hs⟩
theorem DgM.bel {w w' : World} {v : Value} {l : List (Int × Int)} (h : DgM w v l) (hB : RowKit.Below w.heap.size w w') : DgM w' v l := by
 obtain ⟨p, b, cap, rfl, hs⟩ := h
 exact ⟨p, b, cap, rfl, hs.bel hB⟩
theorem SlR.take {w : World} {p : Option Addr} {b off len n : Nat} {L : List (List Value)} (h : SlR w p b off len n L) (m : Nat) (hm : m ≤ len) : SlR w p b off m n (L.take m) := by
 have := h.ln
 refine ⟨by rw [List.length_take]; omega, fun h0 => h.ptr (by omega), fun i r hr => h.at_ i r ?_, fun h0 => h.lt (by omega), by have := h.max; omega⟩
 rw [List.getElem?_take] at hr
 split at hr
 ·exact hr
 ·cases hr
theorem dg_form {w : World} {base : Nat} {v : Value} {l : List (Int × Int)} (h : DgO w base v l) : (v = .slice none 0 0 ∧ l.length = 0) ∨ ∃ g cap, v = .slice (some ⟨g, 0, none⟩) l.length cap ∧ l.length ≤ cap ∧ cap ≤ 9223372036854775807 := by
 rcases h.own.2 with ⟨h1, h2⟩ | ⟨g, cap, cur, h1, -, -, h4, h5, -⟩
 ·exact .inl ⟨h1, h2⟩
 ·exact .inr ⟨g, cap, h1, h4, by unfold maxLen at h5; omega⟩
/-- The first ones of a slice of errors. -/
theorem dg_take {w : World} {base g cap m c : Nat} {l : List (Int × Int)} (h : DgO w base (.slice (some ⟨g, 0, none⟩) l.length cap) l) (hm : m = min l.length 20) : DgM w (.slice (some ⟨g, 0, none⟩) m c) (l.take 20) := by
 obtain ⟨p, b, cap', e, hs⟩ := h.dm
 injection e with e1 e2 e3
 subst e1
 have hl : (l.take 20).length = m := by rw [List.length_take]; omega
 refine ⟨_, b, c, by rw [hl], ?_⟩
 rw [List.map_take, hl]
 have := hs.take m (by omega)
 rw [show (List.map gC l).take 20 = (List.map gC l).take m by
  rw [hm]
  by_cases h20 : l.length ≤ 20
  ·rw [List.take_of_length_le (by simpa using h20), Nat.min_eq_left h20, List.take_of_length_le (by simp)]
  ·rw [Nat.min_eq_right (by omega)]]
 exact this
theorem dg_none {w : World} {l : List (Int × Int)} (h : l.length = 0) : DgM w (.slice none 0 0) (l.take 20) := by
 have : l = [] := List.length_eq_zero_iff.1 h
 subst this
 exact ⟨none, 0, 0, rfl, SlR.nil _ _ _ _ _⟩
set_option maxRecDepth 100000 in
set_option maxHeartbeats 8000000 in
theorem uCheck_any (L : List Dc) (rs : List Ru) (rows : List (List Value)) (pd pr : Option Addr) (bd od cd br orr cr : Nat) (A : Nat → Prop) (w : World) (hD : SlR w pd bd od L.length 8 (L.map dC)) (hR : RsM w A pr br orr rs rows) :
  Calls Try.prog 18 #[.agg #[.slice pd L.length cd, .slice pr rs.length cr]] w fun e w' => ∃ v, e = .returned v ∧ DgM w' v (checkV vld L rs) ∧ RowKit.Below w.heap.size w w' := by
 have KB := Lib.hid (fun V (h : RowKit.Below w.heap.size w V) => uareBylaws_any L rs rows pd pr bd od cd br orr cr A V (hD.bel h) (hR.bel h))
 have KF := Lib.hid (fun (hl : L.length ≤ 1000000) V (h : RowKit.Below w.heap.size w V) => ufactErrors_any L hl pd bd od cd V (hD.bel h))
 have KR := Lib.hid (fun (hf : formC vld L rs = true) (he : errsD [] L = []) V (h : RowKit.Below w.heap.size w V) => by
  have hf2 := hf
  simp only [formC, Bool.and_eq_true, decide_eq_true_eq] at hf2
  exact uruleErrors_any L hf2.1.1 he rs (by omega) hf2.2 rows pd pr bd od cd br orr cr A V (hD.bel h) (hR.bel h))
 have A1 := (Below.refl w.heap.size w).alloc (Nat.le_refl _) (.cells #[.slice pd L.length cd, .slice pr rs.length cr] 25)
 have X1 := Lib.hid (BoxL.new w [.slice pd L.length cd, .slice pr rs.length cr] 25)
 have HB := Lib.hid A1
 have HFL : Hid (formC vld L rs = true → L.length ≤ 1000000) := fun h => by simp only [formC, formD, Bool.and_eq_true, decide_eq_true_eq] at h; have := h.1.1.1; omega
 obtain ⟨R, hRR⟩ : ∃ R, R = checkV vld L rs := ⟨_, rfl⟩
 rw [← hRR]
 have HR : Hid (R = if formC vld L rs = false then [(0, 1)] else if (errsD [] L).isEmpty then (errsR (Un.facts L) [] rs).take 20 else (errsD [] L).take 20) := hRR
 clear hRR hD hR A1
 generalize hW1 : w.alloc (.cells #[.slice pd L.length cd, .slice pr rs.length cr] 25) = W1 at *
 obtain ⟨c0, -⟩ := X1.out 0 _ rfl
 obtain ⟨c1, -⟩ := X1.out 1 _ rfl
 go_enter Try.func18, Try.ntmps18
 go_wp2_with fail
 clear hW1
 refine (KB.out _ HB.out).mono ?_
 rintro _ V1 ⟨rfl, hb⟩
 have B1 := Lib.hid (HB.out.trans (hb.mono HB.out.size))
 have X2 := Lib.hid (X1.out.bel (by simp) hb)
 clear hb KB HB X1 c0 c1
 cases hf : formC vld L rs with
 | false =>
  have HR2 : Hid (R = [(0, 1)]) := by show _ = _; rw [HR.out, if_pos hf]
  clear hf KF KR
  have a3 := (Below.refl V1.heap.size V1).alloc (Nat.le_refl _) (.cells #[.int .i64 0, .int .i64 1] 66)
  have d3 := BoxL.new V1 [.int .i64 0, .int .i64 1] 66
  have B3 := Lib.hid (B1.out.trans (a3.mono B1.out.size))
  have D3 : Hid (DgM (V1.alloc (.cells #[.int .i64 0, .int .i64 1] 66)) (.slice (some ⟨V1.heap.size, 0, none⟩) 1 1) [(0, 1)]) :=
   ⟨_, V1.heap.size, _, rfl, rfl, fun _ => rfl, fun i r hr => by
    cases i with
    | zero => cases hr; exact ⟨rfl, fun j v hv => by rw [show 0 + 0 * 2 + j = j by omega]; exact (d3 j v hv).1⟩
    | succ i => simp at hr, fun _ => by simp, by decide⟩
  clear a3 d3
  go_wp2_with fail
  go_ret
  exact ⟨_, rfl, by rw [HR2.out]; exact D3.out, B3.out⟩
 | true =>
  have KF2 := Lib.hid (KF.out (HFL.out hf) V1 B1.out)
  have KR2 := Lib.hid (fun he V h => KR.out hf he V h)
  have HR2 : Hid (R = if (errsD [] L).isEmpty then (errsR (Un.facts L) [] rs).take 20 else (errsD [] L).take 20) := by show _ = _; rw [HR.out, if_neg (by rw [hf]; simp)]
  clear hf KF KR HFL HR
  obtain ⟨c0, -⟩ := X2.out 0 _ rfl
  obtain ⟨c1, -⟩ := X2.out 1 _ rfl
  go_wp2_with fail
  refine KF2.out.mono ?_
  rintro _ V2 ⟨v, rfl, hd, hb⟩
  have B2 := Lib.hid (B1.out.trans (hb.mono B1.out.size))
  have X3 := Lib.hid (X2.out.bel (by simp) hb)
  clear hb KF2 B1 X2 c0 c1
  obtain ⟨c0, -⟩ := X3.out 0 _ rfl
  obtain ⟨c1, -⟩ := X3.out 1 _ rfl
  cases he : errsD [] L with
  | nil =>
   have KR3 := Lib.hid (KR2.out he V2 B2.out)
   have HR3 : Hid (R = (errsR (Un.facts L) [] rs).take 20) := by show _ = _; rw [HR2.out, he]; rfl
   rw [he] at hd
   obtain ⟨q, cap, rfl⟩ := hd.slice
   clear he hd HR2 KR2
   go_wp2_with fail
   refine KR3.out.mono ?_
   rintro _ V3 ⟨v3, rfl, hd, hb⟩
   have B3 := Lib.hid (B2.out.trans (hb.mono B2.out.size))
   clear hb KR3
   generalize errsR (Un.facts L) [] rs = es at *
   rcases dg_form hd with ⟨rfl, h0⟩ | ⟨g, cap3, rfl, hcap, hcm⟩
   ·have HQ : Hid (DgM V3 (.slice none 0 0) (es.take 20)) := dg_none h0
    clear hd h0
    go_wp2_with fail
    go_ret
    exact ⟨_, rfl, by rw [HR3.out]; exact HQ.out, B3.out⟩
   ·by_cases h20 : es.length ≤ 20
    ·have HQ := Lib.hid (fun c => dg_take (c := c) hd (m := es.length) (by omega))
     have hz1 : (es.length : Int) ≤ 20 := by omega
     have hz2 : ¬ (20 : Int) < (es.length : Int) := by omega
     have hz3 : (es.length : Int) ≤ (cap3 : Int) := by omega
     clear hd h20
     generalize hen : es.length = n at *
     clear hen
     go_wp2_with fail
     go_ret
     exact ⟨_, rfl, by rw [HR3.out]; exact HQ.out _, B3.out⟩
    ·have HQ := Lib.hid (fun c => dg_take (c := c) hd (m := 20) (by omega))
     have hz1 : ¬ (es.length : Int) ≤ 20 := by omega
     have hz2 : (20 : Int) < (es.length : Int) := by omega
     have hz3 : (20 : Int) ≤ (cap3 : Int) := by omega
     clear hd h20
     generalize hen : es.length = n at *
     clear hen
     go_wp2_with fail
     go_ret
     exact ⟨_, rfl, by rw [HR3.out]; exact HQ.out _, B3.out⟩
  | cons a l =>
   have HR3 : Hid (R = (errsD [] L).take 20) := by show _ = _; rw [HR2.out, he]; rfl
   have hne : 0 < (errsD [] L).length := by rw [he]; simp
   clear he HR2 KR2
   generalize errsD [] L = es at *
   have hnz : ((es.length : Int) == 0) = false := beq_eq_false_iff_ne.2 (by omega)
   rcases dg_form hd with ⟨rfl, h0⟩ | ⟨g, cap3, rfl, hcap, hcm⟩
   ·exact absurd h0 (by omega)
   ·by_cases h20 : es.length ≤ 20
    ·have HQ := Lib.hid (fun c => dg_take (c := c) hd (m := es.length) (by omega))
     have hz1 : (es.length : Int) ≤ 20 := by omega
     have hz2 : ¬ (20 : Int) < (es.length : Int) := by omega
     have hz3 : (es.length : Int) ≤ (cap3 : Int) := by omega
     clear hd h20
     generalize hen : es.length = n at *
     clear hen
     go_wp2_with fail
     go_ret
     exact ⟨_, rfl, by rw [HR3.out]; exact HQ.out _, B2.out⟩
    ·have HQ := Lib.hid (fun c => dg_take (c := c) hd (m := 20) (by omega))
     have hz1 : ¬ (es.length : Int) ≤ 20 := by omega
     have hz2 : (20 : Int) < (es.length : Int) := by omega
     have hz3 : (20 : Int) ≤ (cap3 : Int) := by omega
     clear hd h20
     generalize hen : es.length = n at *
     clear hen
     go_wp2_with fail
     go_ret
     exact ⟨_, rfl, by rw [HR3.out]; exact HQ.out _, B2.out⟩
end Go.Proofs.Ytoaonficdkgfiaa
namespace Go.Proofs.Ytoaonficdkgfiaa
open Go.RowKit Un MapKept

/-- A character is right at its place. -/
def okc (i : Nat) (c : UInt8) : Bool := letter c || (decide (i ≠ 0) && (digit c || c == 95))
theorem okc_all (c : UInt8) (r : List UInt8) : (letter c && r.all inName) = true ↔ ∀ i, i < r.length + 1 → okc i ((c :: r).getD i 0) = true := by
  rw [Bool.and_eq_true, List.all_eq_true]
  constructor
  · rintro ⟨h1, h2⟩ i hi
    cases i with
    | zero => simp [okc, h1]
    | succ i =>
      have hi' : i < r.length := by omega
      have := h2 r[i] (List.getElem_mem hi')
      have e : (c :: r).getD (i + 1) 0 = r[i] := by simp [hi']
      rw [e]
      unfold okc
      simp only [inName, Bool.or_eq_true] at this
      simp only [Bool.or_eq_true, Bool.and_eq_true, decide_eq_true_eq]
      rcases this with (h | h) | h
      · exact .inl h
      · exact .inr ⟨by omega, .inl h⟩
      · exact .inr ⟨by omega, .inr h⟩
  · intro h
    refine ⟨?_, fun x hx => ?_⟩
    · have := h 0 (by omega)
      simpa [okc] using this
    · obtain ⟨i, hi, rfl⟩ := List.mem_iff_getElem.1 hx
      have := h (i + 1) (by omega)
      have e : (c :: r).getD (i + 1) 0 = r[i] := by simp [hi]
      rw [e] at this
      unfold okc at this
      simp only [inName, Bool.or_eq_true]
      simp only [Bool.or_eq_true, Bool.and_eq_true, decide_eq_true_eq] at this
      rcases this with h | ⟨-, h | h⟩
      · exact .inl (.inl h)
      · exact .inl (.inr h)
      · exact .inr h
theorem name_iff (x : List UInt8) : isName x = true ↔ (1 ≤ x.length ∧ x.length ≤ 16) ∧ (∀ i, i < x.length → okc i (x.getD i 0) = true) ∧ reserved.contains x = false := by
  cases x with
  | nil => simp [isName]
  | cons c r =>
    unfold isName
    simp only [Bool.and_eq_true, decide_eq_true_eq, Bool.not_eq_true']
    have := okc_all c r
    rw [Bool.and_eq_true] at this
    simp only [List.length_cons]
    rw [← this]
    constructor
    · rintro ⟨⟨⟨a, b⟩, c⟩, d⟩; exact ⟨⟨by omega, a⟩, ⟨b, c⟩, d⟩
    · rintro ⟨⟨-, a⟩, ⟨b, c⟩, d⟩; exact ⟨⟨⟨a, b⟩, c⟩, d⟩
set_option maxRecDepth 100000 in
set_option maxHeartbeats 4000000 in
theorem rreserved_any (w : World) : Calls Try.prog 71 #[] w fun e w' => e = .returned (.slice (some ⟨w.heap.size, 0, none⟩) 21 21) ∧ w' = w.alloc (.cells (reserved.map fun s => Value.string (bs s)).toArray 9) := by
  go_enter Try.func71, Try.ntmps71
  go_wp2_with fail
  go_ret
  exact ⟨rfl, rfl⟩
set_option maxRecDepth 100000 in
set_option maxHeartbeats 12000000 in
theorem rName_any (x : List UInt8) (w : World) : Calls Try.prog 50 #[.string (bs x)] w fun e w' => e = .returned (.bool (isName x)) ∧ RowKit.Below w.heap.size w w' := by
  obtain ⟨R, hR⟩ : ∃ R, R = isName x := ⟨_, rfl⟩
  obtain ⟨s, hs⟩ : ∃ s, s = bs x := ⟨_, rfl⟩
  have hX : StX s x := by rw [hs]; exact StX.mk' x
  have HI : Hid (R = true ↔ (1 ≤ x.length ∧ x.length ≤ 16) ∧ (∀ i, i < x.length → okc i (x.getD i 0) = true) ∧ reserved.contains x = false) := by show _ ↔ _; rw [hR]; exact name_iff x
  rw [← hR, ← hs]
  obtain ⟨ls, sz, at_⟩ := hX
  have HA := Lib.hid at_
  have HLS := Lib.hid ls
  have HB := Lib.hid (Below.refl w.heap.size w)
  have KR := Lib.hid rreserved_any
  clear hR hs at_ ls
  have HF : Hid (¬ ((1 ≤ x.length ∧ x.length ≤ 16) ∧ (∀ i, i < x.length → okc i (x.getD i 0) = true) ∧ reserved.contains x = false) → R = false) := fun h => by
    cases hr : R with
    | false => rfl
    | true => exact absurd (HI.out.1 hr) h
  by_cases h1 : s.size < 1
  · have z1 : (s.size : Int) < 1 := by omega
    have HR : Hid (R = false) := HF.out (by rintro ⟨⟨h, -⟩, -⟩; omega)
    go_enter Try.func50, Try.ntmps50
    go_wp2_with fail
    go_ret
    exact ⟨ret_bool HR.out.symm, HB.out⟩
  · by_cases h2 : 16 < s.size
    · have z1 : ¬ (s.size : Int) < 1 := by omega
      have z2 : (16 : Int) < (s.size : Int) := by omega
      have HR : Hid (R = false) := HF.out (by rintro ⟨⟨-, h⟩, -⟩; omega)
      go_enter Try.func50, Try.ntmps50
      go_wp2_with fail
      go_ret
      exact ⟨ret_bool HR.out.symm, HB.out⟩
    · have z1 : ¬ (s.size : Int) < 1 := by omega
      have z2 : ¬ (16 : Int) < (s.size : Int) := by omega
      have HLN := Lib.hid sz
      obtain ⟨n, hn⟩ : ∃ n, n = s.size := ⟨_, rfl⟩
      have HN := Lib.hid hn
      have hn17 : n ≤ 16 := by omega
      rw [← hn] at z1 z2
      go_enter Try.func50, Try.ntmps50
      go_wp2_with fail
      clear z1 z2 sz
      go_loopg [3] n (fun g v3 wr => ∃ k : Nat, v3 = .int .i64 (k : Nat) ∧ k ≤ n ∧ n - k ≤ g ∧ Hid (∀ i, i < k → okc i (x.getD i 0) = true) ∧ wr = w)
      case atStart => exact ⟨0, rfl, by omega, by omega, fun i h => absurd h (Nat.not_lt_zero _), rfl⟩
      case round =>
        obtain ⟨k, rfl, hk, hg, HM, rfl⟩ := hrel
        by_cases hlt : k < n
        · have hz : (k : Int) < (s.size : Int) := by omega
          have hkk : k < s.size := by omega
          obtain ⟨c, hc⟩ : ∃ c, c = x.getD k 0 := ⟨_, rfl⟩
          have hcc : s[k] = c := (HA.out k hkk).trans hc.symm
          have HC := Lib.hid hc
          have e2 : IntKind.i64.wrap ((k : Int) + 1) = ((k + 1 : Nat) : Int) := by rw [IntWalk.i64_in _ (by omega)]; rfl
          have HNO : Hid (okc k c = false → R = false) := fun h => HF.out (by rintro ⟨-, h2, -⟩; have := h2 k (by have := HLN.out; omega); rw [← HC.out, h] at this; cases this)
          have HOK : Hid (okc k c = true → ∀ i, i < k + 1 → okc i (x.getD i 0) = true) := fun h i hi => by
            by_cases hik : i = k
            · subst hik; rw [← HC.out]; exact h
            · exact HM.out i (by omega)
          have HOE : Hid (okc k c = (decide (97 ≤ (c.toNat : Int)) && decide ((c.toNat : Int) ≤ 122) || (decide (k ≠ 0) && (decide (48 ≤ (c.toNat : Int)) && decide ((c.toNat : Int) ≤ 57) || ((c.toNat : Int) == 95))))) := by
            show _ = _
            have h95 : (c == 95) = ((c.toNat : Int) == 95) := by
              rw [Bool.eq_iff_iff, beq_iff_eq, beq_iff_eq]
              constructor
              · rintro rfl; rfl
              · intro h
                have h2 : c.toNat = (95 : UInt8).toNat := by
                  have : ((95 : UInt8).toNat : Int) = 95 := rfl
                  omega
                exact UInt8.toNat_inj.1 h2
            unfold okc letter digit
            rw [h95]
            congr 1
            · congr 1 <;> exact decide_eq_decide.2 (by omega)
            · congr 1
              congr 1
              congr 1 <;> exact decide_eq_decide.2 (by omega)
          clear hc
          have hc0 : 0 ≤ (c.toNat : Int) := by omega
          by_cases a1 : 97 ≤ (c.toNat : Int) <;> by_cases a2 : (c.toNat : Int) ≤ 122 <;> by_cases b1 : 48 ≤ (c.toNat : Int) <;> by_cases b2 : (c.toNat : Int) ≤ 57 <;> by_cases b3 : (c.toNat : Int) = 95 <;> first | (exfalso; omega) | skip
          all_goals
            have b4 : ((c.toNat : Int) == 95) = decide ((c.toNat : Int) = 95) := rfl
            by_cases k0 : k = 0
            · subst k0
              go_wp2_with fail
              all_goals first
                | (go_ret
                   refine ⟨ret_bool (HNO.out ?_).symm, HB.out⟩
                   rw [HOE.out]
                   simp [a1, a2, b1, b2, b3]
                   done)
                | (exfalso; omega)
                | (go_roundg (n - (0 + 1))
                   case measure => omega
                   case rel =>
                     refine ⟨0 + 1, by simp, by omega, Nat.le_refl _, HOK.out ?_, rfl⟩
                     rw [HOE.out]
                     simp [a1, a2, b1])
            · have k1 : ((k : Int) == 0) = false := by simpa using k0
              go_wp2_with fail
              all_goals first
                | (go_ret
                   refine ⟨ret_bool (HNO.out ?_).symm, HB.out⟩
                   rw [HOE.out]
                   simp [a1, a2, b1, b2, b3, k0]
                   done)
                | (exfalso; omega)
                | (go_roundg (n - (k + 1))
                   case measure => omega
                   case rel =>
                     refine ⟨k + 1, by simp, by omega, Nat.le_refl _, HOK.out ?_, rfl⟩
                     rw [HOE.out]
                     simp [a1, a2, b1, b2, b3, k0])
        · have hz : ¬ (k : Int) < (s.size : Int) := by omega
          have hkn : k = n := by omega
          have HALL : Hid (∀ i, i < x.length → okc i (x.getD i 0) = true) := fun i h => HM.out i (by have := HLN.out; omega)
          have HLR : Hid ((1 ≤ x.length ∧ x.length ≤ 16)) := by show _ ∧ _; have := HLN.out; omega
          go_wp2_with fail
          refine (KR.out _).mono ?_
          rintro _ W2 ⟨rfl, hw⟩
          have hb := (Below.refl wr.heap.size wr).alloc (Nat.le_refl _) (.cells (reserved.map fun s => Value.string (bs s)).toArray 9)
          have hx := BoxL.new wr (reserved.map fun s => Value.string (bs s)) 9
          rw [← hw] at hb hx
          have HW2 := Lib.hid hb
          have HX2 := Lib.hid hx
          clear hw hb hx KR
          go_wp2_with fail
          go_loopg [7] 21 (fun g v7 wq => ∃ j : Nat, v7 = .int .i64 (j : Nat) ∧ j ≤ 21 ∧ 21 - j ≤ g ∧ Hid (∀ i r, i < j → reserved[i]? = some r → r ≠ x) ∧ wq = W2)
          case atStart => exact ⟨0, rfl, by omega, by omega, fun i r h => absurd h (Nat.not_lt_zero _), rfl⟩
          case round =>
            obtain ⟨j, rfl, hj, hg2, HJ, rfl⟩ := hrel
            by_cases hj21 : j < 21
            · have hz : (j : Int) < 21 := by omega
              have hjr : j < reserved.length := hj21
              obtain ⟨r, hr⟩ : ∃ r, r = reserved[j] := ⟨_, rfl⟩
              have hjq : reserved[j]? = some r := by rw [hr]; exact List.getElem?_eq_getElem hjr
              have z0 := (HX2.out j (.string (bs r)) (by rw [List.getElem?_map, hjq]; rfl)).1
              have E4 : Hid (r ≠ x → ∀ i r, i < j + 1 → reserved[i]? = some r → r ≠ x) := fun h i r' hi hr' => by
                by_cases hij : i = j
                · subst hij; rw [hjq] at hr'; cases hr'; exact h
                · exact HJ.out i r' (by omega) hr'
              have E5 : Hid (r = x → R = false) := fun h => HF.out (by
                rintro ⟨-, -, h3⟩
                rw [List.contains_eq_any_beq, List.any_eq_false] at h3
                have := h3 r (by rw [hr]; exact List.getElem_mem hjr)
                rw [h] at this
                simp at this)
              have e1 : ((bs r).toList == s.toList) = (r == x) := by rw [bs_list, HLS.out]
              have e2 : IntKind.i64.wrap ((j : Int) + 1) = ((j + 1 : Nat) : Int) := by rw [IntWalk.i64_in _ (by omega)]; rfl
              clear hr hjq hjr
              by_cases hrx : r = x
              · have e3 : ((bs r).toList == s.toList) = true := by rw [e1]; simpa using hrx
                have HRF := Lib.hid (E5.out hrx)
                clear hrx e1 E4 E5
                generalize bs r = rb at *
                go_wp2_with fail
                go_ret
                exact ⟨ret_bool HRF.out.symm, HW2.out⟩
              · have e3 : ((bs r).toList == s.toList) = false := by rw [e1]; simpa using hrx
                have HN2 := Lib.hid (E4.out hrx)
                clear hrx e1 E4 E5
                generalize bs r = rb at *
                go_wp2_with fail
                go_roundg (21 - (j + 1))
                case measure => omega
                case rel => exact ⟨j + 1, by simp, by omega, Nat.le_refl _, HN2, rfl⟩
            · have hz : ¬ (j : Int) < 21 := by omega
              have hje : j = 21 := by omega
              subst hje
              have HRT : Hid (R = true) := HI.out.2 ⟨HLR.out, HALL.out, by
                rw [List.contains_eq_any_beq, List.any_eq_false]
                intro r hr
                obtain ⟨i, hi⟩ := List.getElem?_of_mem hr
                have hi2 := (List.getElem?_eq_some_iff.1 hi).1
                have := HJ.out i r hi2 hi
                simpa using Ne.symm this⟩
              go_wp2_with fail
              go_ret
              exact ⟨ret_bool HRT.out.symm, HW2.out⟩
end Go.Proofs.Ytoaonficdkgfiaa
