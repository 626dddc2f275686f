/-
  ZG: several texts in one.
-/
import Derived.Test.YtjifiijgghpniaaZF
import Derived.Test.YtjifiijgghpniaaZD
/-
  Contract of units: Check.
-/
namespace Go.Proofs.Ytjifiijgghpniaa
open Go.RowKit Un MapKept

/-- A slice of errors in memory. -/
def DgM (w : World) (v : Value) (l : List (Int × Int)) : Prop := ∃ p b cap, v = .slice p l.length cap ∧ SlR w p b 0 l.length 2 (l.map gC)
theorem flatMap_flat (l : List (Int × Int)) : l.flatMap gC = (l.map gC).flatten := by simp [List.flatMap]
theorem DgO.dm {w : World} {base : Nat} {v : Value} {l : List (Int × Int)} (h : DgO w base v l) : DgM w v l := by
  have ho := h.own
  rw [flatMap_flat] at ho
  have e : (l.map gC).length = l.length := List.length_map ..
  rw [← e] at ho
  obtain ⟨p, b, cap, rfl, hs⟩ := own_slr ho (fun x hx => by obtain ⟨y, -, rfl⟩ := List.mem_map.1 hx; rfl)
  rw [e] at hs
  exact ⟨p, b, cap, by rw [e], hs⟩
theorem DgM.bel {w w' : World} {v : Value} {l : List (Int × Int)} (h : DgM w v l) (hB : RowKit.Below w.heap.size w w') : DgM w' v l := by
  obtain ⟨p, b, cap, rfl, hs⟩ := h
  exact ⟨p, b, cap, rfl, hs.bel hB⟩
theorem SlR.take {w : World} {p : Option Addr} {b off len n : Nat} {L : List (List Value)} (h : SlR w p b off len n L) (m : Nat) (hm : m ≤ len) : SlR w p b off m n (L.take m) := by
  have := h.ln
  refine ⟨by rw [List.length_take]; omega, fun h0 => h.ptr (by omega), fun i r hr => h.at_ i r ?_, fun h0 => h.lt (by omega), by have := h.max; omega⟩
  rw [List.getElem?_take] at hr
  split at hr
  · exact hr
  · cases hr
theorem dg_form {w : World} {base : Nat} {v : Value} {l : List (Int × Int)} (h : DgO w base v l) : (v = .slice none 0 0 ∧ l.length = 0) ∨ ∃ g cap, v = .slice (some ⟨g, 0, none⟩) l.length cap ∧ l.length ≤ cap ∧ cap ≤ 9223372036854775807 := by
  rcases h.own.2 with ⟨h1, h2⟩ | ⟨g, cap, cur, h1, -, -, h4, h5, -⟩
  · exact .inl ⟨h1, h2⟩
  · exact .inr ⟨g, cap, h1, h4, by unfold maxLen at h5; omega⟩
/-- The first ones of a slice of errors. -/
theorem dg_take {w : World} {base g cap m c : Nat} {l : List (Int × Int)} (h : DgO w base (.slice (some ⟨g, 0, none⟩) l.length cap) l) (hm : m = min l.length 20) : DgM w (.slice (some ⟨g, 0, none⟩) m c) (l.take 20) := by
  obtain ⟨p, b, cap', e, hs⟩ := h.dm
  injection e with e1 e2 e3
  subst e1
  have hl : (l.take 20).length = m := by rw [List.length_take]; omega
  refine ⟨_, b, c, by rw [hl], ?_⟩
  rw [List.map_take, hl]
  have := hs.take m (by omega)
  rw [show (List.map gC l).take 20 = (List.map gC l).take m by
    rw [hm]
    by_cases h20 : l.length ≤ 20
    · rw [List.take_of_length_le (by simpa using h20), Nat.min_eq_left h20, List.take_of_length_le (by simp)]
    · rw [Nat.min_eq_right (by omega)]]
  exact this
theorem dg_none {w : World} {l : List (Int × Int)} (h : l.length = 0) : DgM w (.slice none 0 0) (l.take 20) := by
  have : l = [] := List.length_eq_zero_iff.1 h
  subst this
  exact ⟨none, 0, 0, rfl, SlR.nil _ _ _ _ _⟩
set_option maxRecDepth 100000 in
set_option maxHeartbeats 8000000 in
theorem uCheck_any (L : List Dc) (rs : List Ru) (rows : List (List Value)) (pd pr : Option Addr) (bd od cd br orr cr : Nat) (A : Nat → Prop) (w : World) (hD : SlR w pd bd od L.length 8 (L.map dC)) (hR : RsM w A pr br orr rs rows) :
    Calls Try.prog 18 #[.agg #[.slice pd L.length cd, .slice pr rs.length cr]] w fun e w' => ∃ v, e = .returned v ∧ DgM w' v (checkV vld L rs) ∧ RowKit.Below w.heap.size w w' := by
  have KB := Lib.hid (fun V (h : RowKit.Below w.heap.size w V) => uareBylaws_any L rs rows pd pr bd od cd br orr cr A V (hD.bel h) (hR.bel h))
  have KF := Lib.hid (fun (hl : L.length ≤ 1000000) V (h : RowKit.Below w.heap.size w V) => ufactErrors_any L hl pd bd od cd V (hD.bel h))
  have KR := Lib.hid (fun (hf : formC vld L rs = true) (he : errsD [] L = []) V (h : RowKit.Below w.heap.size w V) => by
    have hf2 := hf
    simp only [formC, Bool.and_eq_true, decide_eq_true_eq] at hf2
    exact uruleErrors_any L hf2.1.1 he rs (by omega) hf2.2 rows pd pr bd od cd br orr cr A V (hD.bel h) (hR.bel h))
  have A1 := (Below.refl w.heap.size w).alloc (Nat.le_refl _) (.cells #[.slice pd L.length cd, .slice pr rs.length cr] 25)
  have X1 := Lib.hid (BoxL.new w [.slice pd L.length cd, .slice pr rs.length cr] 25)
  have HB := Lib.hid A1
  have HFL : Hid (formC vld L rs = true → L.length ≤ 1000000) := fun h => by simp only [formC, formD, Bool.and_eq_true, decide_eq_true_eq] at h; have := h.1.1.1; omega
  obtain ⟨R, hRR⟩ : ∃ R, R = checkV vld L rs := ⟨_, rfl⟩
  rw [← hRR]
  have HR : Hid (R = if formC vld L rs = false then [(0, 1)] else if (errsD [] L).isEmpty then (errsR (Un.facts L) [] rs).take 20 else (errsD [] L).take 20) := hRR
  clear hRR hD hR A1
  generalize hW1 : w.alloc (.cells #[.slice pd L.length cd, .slice pr rs.length cr] 25) = W1 at *
  obtain ⟨c0, -⟩ := X1.out 0 _ rfl
  obtain ⟨c1, -⟩ := X1.out 1 _ rfl
  go_enter Try.func18, Try.ntmps18
  go_wp2_with fail
  clear hW1
  refine (KB.out _ HB.out).mono ?_
  rintro _ V1 ⟨rfl, hb⟩
  have B1 := Lib.hid (HB.out.trans (hb.mono HB.out.size))
  have X2 := Lib.hid (X1.out.bel (by simp) hb)
  clear hb KB HB X1 c0 c1
  cases hf : formC vld L rs with
  | false =>
    have HR2 : Hid (R = [(0, 1)]) := by show _ = _; rw [HR.out, if_pos hf]
    clear hf KF KR
    have a3 := (Below.refl V1.heap.size V1).alloc (Nat.le_refl _) (.cells #[.int .i64 0, .int .i64 1] 66)
    have d3 := BoxL.new V1 [.int .i64 0, .int .i64 1] 66
    have B3 := Lib.hid (B1.out.trans (a3.mono B1.out.size))
    have D3 : Hid (DgM (V1.alloc (.cells #[.int .i64 0, .int .i64 1] 66)) (.slice (some ⟨V1.heap.size, 0, none⟩) 1 1) [(0, 1)]) :=
      ⟨_, V1.heap.size, _, rfl, rfl, fun _ => rfl, fun i r hr => by
        cases i with
        | zero => cases hr; exact ⟨rfl, fun j v hv => by rw [show 0 + 0 * 2 + j = j by omega]; exact (d3 j v hv).1⟩
        | succ i => simp at hr, fun _ => by simp, by decide⟩
    clear a3 d3
    go_wp2_with fail
    go_ret
    exact ⟨_, rfl, by rw [HR2.out]; exact D3.out, B3.out⟩
  | true =>
    have KF2 := Lib.hid (KF.out (HFL.out hf) V1 B1.out)
    have KR2 := Lib.hid (fun he V h => KR.out hf he V h)
    have HR2 : Hid (R = if (errsD [] L).isEmpty then (errsR (Un.facts L) [] rs).take 20 else (errsD [] L).take 20) := by show _ = _; rw [HR.out, if_neg (by rw [hf]; simp)]
    clear hf KF KR HFL HR
    obtain ⟨c0, -⟩ := X2.out 0 _ rfl
    obtain ⟨c1, -⟩ := X2.out 1 _ rfl
    go_wp2_with fail
    refine KF2.out.mono ?_
    rintro _ V2 ⟨v, rfl, hd, hb⟩
    have B2 := Lib.hid (B1.out.trans (hb.mono B1.out.size))
    have X3 := Lib.hid (X2.out.bel (by simp) hb)
    clear hb KF2 B1 X2 c0 c1
    obtain ⟨c0, -⟩ := X3.out 0 _ rfl
    obtain ⟨c1, -⟩ := X3.out 1 _ rfl
    cases he : errsD [] L with
    | nil =>
      have KR3 := Lib.hid (KR2.out he V2 B2.out)
      have HR3 : Hid (R = (errsR (Un.facts L) [] rs).take 20) := by show _ = _; rw [HR2.out, he]; rfl
      rw [he] at hd
      obtain ⟨q, cap, rfl⟩ := hd.slice
      clear he hd HR2 KR2
      go_wp2_with fail
      refine KR3.out.mono ?_
      rintro _ V3 ⟨v3, rfl, hd, hb⟩
      have B3 := Lib.hid (B2.out.trans (hb.mono B2.out.size))
      clear hb KR3
      generalize errsR (Un.facts L) [] rs = es at *
      rcases dg_form hd with ⟨rfl, h0⟩ | ⟨g, cap3, rfl, hcap, hcm⟩
      · have HQ : Hid (DgM V3 (.slice none 0 0) (es.take 20)) := dg_none h0
        clear hd h0
        go_wp2_with fail
        go_ret
        exact ⟨_, rfl, by rw [HR3.out]; exact HQ.out, B3.out⟩
      · by_cases h20 : es.length ≤ 20
        · have HQ := Lib.hid (fun c => dg_take (c := c) hd (m := es.length) (by omega))
          have hz1 : (es.length : Int) ≤ 20 := by omega
          have hz2 : ¬ (20 : Int) < (es.length : Int) := by omega
          have hz3 : (es.length : Int) ≤ (cap3 : Int) := by omega
          clear hd h20
          generalize hen : es.length = n at *
          clear hen
          go_wp2_with fail
          go_ret
          exact ⟨_, rfl, by rw [HR3.out]; exact HQ.out _, B3.out⟩
        · have HQ := Lib.hid (fun c => dg_take (c := c) hd (m := 20) (by omega))
          have hz1 : ¬ (es.length : Int) ≤ 20 := by omega
          have hz2 : (20 : Int) < (es.length : Int) := by omega
          have hz3 : (20 : Int) ≤ (cap3 : Int) := by omega
          clear hd h20
          generalize hen : es.length = n at *
          clear hen
          go_wp2_with fail
          go_ret
          exact ⟨_, rfl, by rw [HR3.out]; exact HQ.out _, B3.out⟩
    | cons a l =>
      have HR3 : Hid (R = (errsD [] L).take 20) := by show _ = _; rw [HR2.out, he]; rfl
      have hne : 0 < (errsD [] L).length := by rw [he]; simp
      clear he HR2 KR2
      generalize errsD [] L = es at *
      have hnz : ((es.length : Int) == 0) = false := beq_eq_false_iff_ne.2 (by omega)
      rcases dg_form hd with ⟨rfl, h0⟩ | ⟨g, cap3, rfl, hcap, hcm⟩
      · exact absurd h0 (by omega)
      · by_cases h20 : es.length ≤ 20
        · have HQ := Lib.hid (fun c => dg_take (c := c) hd (m := es.length) (by omega))
          have hz1 : (es.length : Int) ≤ 20 := by omega
          have hz2 : ¬ (20 : Int) < (es.length : Int) := by omega
          have hz3 : (es.length : Int) ≤ (cap3 : Int) := by omega
          clear hd h20
          generalize hen : es.length = n at *
          clear hen
          go_wp2_with fail
          go_ret
          exact ⟨_, rfl, by rw [HR3.out]; exact HQ.out _, B2.out⟩
        · have HQ := Lib.hid (fun c => dg_take (c := c) hd (m := 20) (by omega))
          have hz1 : ¬ (es.length : Int) ≤ 20 := by omega
          have hz2 : (20 : Int) < (es.length : Int) := by omega
          have hz3 : (20 : Int) ≤ (cap3 : Int) := by omega
          clear hd h20
          generalize hen : es.length = n at *
          clear hen
          go_wp2_with fail
          go_ret
          exact ⟨_, rfl, by rw [HR3.out]; exact HQ.out _, B2.out⟩
end Go.Proofs.Ytjifiijgghpniaa
/-
  Contract of the reference of units: Name.
-/
namespace Go.Proofs.Ytjifiijgghpniaa
open Go.RowKit Un MapKept

/-- A character is right at its place. -/
def okc (i : Nat) (c : UInt8) : Bool := letter c || (decide (i ≠ 0) && (digit c || c == 95))
theorem okc_all (c : UInt8) (r : List UInt8) : (letter c && r.all inName) = true ↔ ∀ i, i < r.length + 1 → okc i ((c :: r).getD i 0) = true := by
  rw [Bool.and_eq_true, List.all_eq_true]
  constructor
  · rintro ⟨h1, h2⟩ i hi
    cases i with
    | zero => simp [okc, h1]
    | succ i =>
      have hi' : i < r.length := by omega
      have := h2 r[i] (List.getElem_mem hi')
      have e : (c :: r).getD (i + 1) 0 = r[i] := by simp [hi']
      rw [e]
      unfold okc
      simp only [inName, Bool.or_eq_true] at this
      simp only [Bool.or_eq_true, Bool.and_eq_true, decide_eq_true_eq]
      rcases this with (h | h) | h
      · exact .inl h
      · exact .inr ⟨by omega, .inl h⟩
      · exact .inr ⟨by omega, .inr h⟩
  · intro h
    refine ⟨?_, fun x hx => ?_⟩
    · have := h 0 (by omega)
      simpa [okc] using this
    · obtain ⟨i, hi, rfl⟩ := List.mem_iff_getElem.1 hx
      have := h (i + 1) (by omega)
      have e : (c :: r).getD (i + 1) 0 = r[i] := by simp [hi]
      rw [e] at this
      unfold okc at this
      simp only [inName, Bool.or_eq_true]
      simp only [Bool.or_eq_true, Bool.and_eq_true, decide_eq_true_eq] at this
      rcases this with h | ⟨-, h | h⟩
      · exact .inl (.inl h)
      · exact .inl (.inr h)
      · exact .inr h
theorem name_iff (x : List UInt8) : isName x = true ↔ (1 ≤ x.length ∧ x.length ≤ 16) ∧ (∀ i, i < x.length → okc i (x.getD i 0) = true) ∧ reserved.contains x = false := by
  cases x with
  | nil => simp [isName]
  | cons c r =>
    unfold isName
    simp only [Bool.and_eq_true, decide_eq_true_eq, Bool.not_eq_true']
    have := okc_all c r
    rw [Bool.and_eq_true] at this
    simp only [List.length_cons]
    rw [← this]
    constructor
    · rintro ⟨⟨⟨a, b⟩, c⟩, d⟩; exact ⟨⟨by omega, a⟩, ⟨b, c⟩, d⟩
    · rintro ⟨⟨-, a⟩, ⟨b, c⟩, d⟩; exact ⟨⟨⟨a, b⟩, c⟩, d⟩
set_option maxRecDepth 100000 in
set_option maxHeartbeats 4000000 in
theorem rreserved_any (w : World) : Calls Try.prog 71 #[] w fun e w' => e = .returned (.slice (some ⟨w.heap.size, 0, none⟩) 21 21) ∧ w' = w.alloc (.cells (reserved.map fun s => Value.string (bs s)).toArray 9) := by
  go_enter Try.func71, Try.ntmps71
  go_wp2_with fail
  go_ret
  exact ⟨rfl, rfl⟩
set_option maxRecDepth 100000 in
set_option maxHeartbeats 12000000 in
theorem rName_any (x : List UInt8) (w : World) : Calls Try.prog 50 #[.string (bs x)] w fun e w' => e = .returned (.bool (isName x)) ∧ RowKit.Below w.heap.size w w' := by
  obtain ⟨R, hR⟩ : ∃ R, R = isName x := ⟨_, rfl⟩
  obtain ⟨s, hs⟩ : ∃ s, s = bs x := ⟨_, rfl⟩
  have hX : StX s x := by rw [hs]; exact StX.mk' x
  have HI : Hid (R = true ↔ (1 ≤ x.length ∧ x.length ≤ 16) ∧ (∀ i, i < x.length → okc i (x.getD i 0) = true) ∧ reserved.contains x = false) := by show _ ↔ _; rw [hR]; exact name_iff x
  rw [← hR, ← hs]
  obtain ⟨ls, sz, at_⟩ := hX
  have HA := Lib.hid at_
  have HLS := Lib.hid ls
  have HB := Lib.hid (Below.refl w.heap.size w)
  have KR := Lib.hid rreserved_any
  clear hR hs at_ ls
  have HF : Hid (¬ ((1 ≤ x.length ∧ x.length ≤ 16) ∧ (∀ i, i < x.length → okc i (x.getD i 0) = true) ∧ reserved.contains x = false) → R = false) := fun h => by
    cases hr : R with
    | false => rfl
    | true => exact absurd (HI.out.1 hr) h
  by_cases h1 : s.size < 1
  · have z1 : (s.size : Int) < 1 := by omega
    have HR : Hid (R = false) := HF.out (by rintro ⟨⟨h, -⟩, -⟩; omega)
    go_enter Try.func50, Try.ntmps50
    go_wp2_with fail
    go_ret
    exact ⟨ret_bool HR.out.symm, HB.out⟩
  · by_cases h2 : 16 < s.size
    · have z1 : ¬ (s.size : Int) < 1 := by omega
      have z2 : (16 : Int) < (s.size : Int) := by omega
      have HR : Hid (R = false) := HF.out (by rintro ⟨⟨-, h⟩, -⟩; omega)
      go_enter Try.func50, Try.ntmps50
      go_wp2_with fail
      go_ret
      exact ⟨ret_bool HR.out.symm, HB.out⟩
    · have z1 : ¬ (s.size : Int) < 1 := by omega
      have z2 : ¬ (16 : Int) < (s.size : Int) := by omega
      have HLN := Lib.hid sz
      obtain ⟨n, hn⟩ : ∃ n, n = s.size := ⟨_, rfl⟩
      have HN := Lib.hid hn
      have hn17 : n ≤ 16 := by omega
      rw [← hn] at z1 z2
      go_enter Try.func50, Try.ntmps50
      go_wp2_with fail
      clear z1 z2 sz
      go_loopg [3] n (fun g v3 wr => ∃ k : Nat, v3 = .int .i64 (k : Nat) ∧ k ≤ n ∧ n - k ≤ g ∧ Hid (∀ i, i < k → okc i (x.getD i 0) = true) ∧ wr = w)
      case atStart => exact ⟨0, rfl, by omega, by omega, fun i h => absurd h (Nat.not_lt_zero _), rfl⟩
      case round =>
        obtain ⟨k, rfl, hk, hg, HM, rfl⟩ := hrel
        by_cases hlt : k < n
        · have hz : (k : Int) < (s.size : Int) := by omega
          have hkk : k < s.size := by omega
          obtain ⟨c, hc⟩ : ∃ c, c = x.getD k 0 := ⟨_, rfl⟩
          have hcc : s[k] = c := (HA.out k hkk).trans hc.symm
          have HC := Lib.hid hc
          have e2 : IntKind.i64.wrap ((k : Int) + 1) = ((k + 1 : Nat) : Int) := by rw [IntWalk.i64_in _ (by omega)]; rfl
          have HNO : Hid (okc k c = false → R = false) := fun h => HF.out (by rintro ⟨-, h2, -⟩; have := h2 k (by have := HLN.out; omega); rw [← HC.out, h] at this; cases this)
          have HOK : Hid (okc k c = true → ∀ i, i < k + 1 → okc i (x.getD i 0) = true) := fun h i hi => by
            by_cases hik : i = k
            · subst hik; rw [← HC.out]; exact h
            · exact HM.out i (by omega)
          have HOE : Hid (okc k c = (decide (97 ≤ (c.toNat : Int)) && decide ((c.toNat : Int) ≤ 122) || (decide (k ≠ 0) && (decide (48 ≤ (c.toNat : Int)) && decide ((c.toNat : Int) ≤ 57) || ((c.toNat : Int) == 95))))) := by
            show _ = _
            have h95 : (c == 95) = ((c.toNat : Int) == 95) := by
              rw [Bool.eq_iff_iff, beq_iff_eq, beq_iff_eq]
              constructor
              · rintro rfl; rfl
              · intro h
                have h2 : c.toNat = (95 : UInt8).toNat := by
                  have : ((95 : UInt8).toNat : Int) = 95 := rfl
                  omega
                exact UInt8.toNat_inj.1 h2
            unfold okc letter digit
            rw [h95]
            congr 1
            · congr 1 <;> exact decide_eq_decide.2 (by omega)
            · congr 1
              congr 1
              congr 1 <;> exact decide_eq_decide.2 (by omega)
          clear hc
          have hc0 : 0 ≤ (c.toNat : Int) := by omega
          by_cases a1 : 97 ≤ (c.toNat : Int) <;> by_cases a2 : (c.toNat : Int) ≤ 122 <;> by_cases b1 : 48 ≤ (c.toNat : Int) <;> by_cases b2 : (c.toNat : Int) ≤ 57 <;> by_cases b3 : (c.toNat : Int) = 95 <;> first | (exfalso; omega) | skip
          all_goals
            have b4 : ((c.toNat : Int) == 95) = decide ((c.toNat : Int) = 95) := rfl
            by_cases k0 : k = 0
            · subst k0
              go_wp2_with fail
              all_goals first
                | (go_ret
                   refine ⟨ret_bool (HNO.out ?_).symm, HB.out⟩
                   rw [HOE.out]
                   simp [a1, a2, b1, b2, b3]
                   done)
                | (exfalso; omega)
                | (go_roundg (n - (0 + 1))
                   case measure => omega
                   case rel =>
                     refine ⟨0 + 1, by simp, by omega, Nat.le_refl _, HOK.out ?_, rfl⟩
                     rw [HOE.out]
                     simp [a1, a2, b1])
            · have k1 : ((k : Int) == 0) = false := by simpa using k0
              go_wp2_with fail
              all_goals first
                | (go_ret
                   refine ⟨ret_bool (HNO.out ?_).symm, HB.out⟩
                   rw [HOE.out]
                   simp [a1, a2, b1, b2, b3, k0]
                   done)
                | (exfalso; omega)
                | (go_roundg (n - (k + 1))
                   case measure => omega
                   case rel =>
                     refine ⟨k + 1, by simp, by omega, Nat.le_refl _, HOK.out ?_, rfl⟩
                     rw [HOE.out]
                     simp [a1, a2, b1, b2, b3, k0])
        · have hz : ¬ (k : Int) < (s.size : Int) := by omega
          have hkn : k = n := by omega
          have HALL : Hid (∀ i, i < x.length → okc i (x.getD i 0) = true) := fun i h => HM.out i (by have := HLN.out; omega)
          have HLR : Hid ((1 ≤ x.length ∧ x.length ≤ 16)) := by show _ ∧ _; have := HLN.out; omega
          go_wp2_with fail
          refine (KR.out _).mono ?_
          rintro _ W2 ⟨rfl, hw⟩
          have hb := (Below.refl wr.heap.size wr).alloc (Nat.le_refl _) (.cells (reserved.map fun s => Value.string (bs s)).toArray 9)
          have hx := BoxL.new wr (reserved.map fun s => Value.string (bs s)) 9
          rw [← hw] at hb hx
          have HW2 := Lib.hid hb
          have HX2 := Lib.hid hx
          clear hw hb hx KR
          go_wp2_with fail
          go_loopg [7] 21 (fun g v7 wq => ∃ j : Nat, v7 = .int .i64 (j : Nat) ∧ j ≤ 21 ∧ 21 - j ≤ g ∧ Hid (∀ i r, i < j → reserved[i]? = some r → r ≠ x) ∧ wq = W2)
          case atStart => exact ⟨0, rfl, by omega, by omega, fun i r h => absurd h (Nat.not_lt_zero _), rfl⟩
          case round =>
            obtain ⟨j, rfl, hj, hg2, HJ, rfl⟩ := hrel
            by_cases hj21 : j < 21
            · have hz : (j : Int) < 21 := by omega
              have hjr : j < reserved.length := hj21
              obtain ⟨r, hr⟩ : ∃ r, r = reserved[j] := ⟨_, rfl⟩
              have hjq : reserved[j]? = some r := by rw [hr]; exact List.getElem?_eq_getElem hjr
              have z0 := (HX2.out j (.string (bs r)) (by rw [List.getElem?_map, hjq]; rfl)).1
              have E4 : Hid (r ≠ x → ∀ i r, i < j + 1 → reserved[i]? = some r → r ≠ x) := fun h i r' hi hr' => by
                by_cases hij : i = j
                · subst hij; rw [hjq] at hr'; cases hr'; exact h
                · exact HJ.out i r' (by omega) hr'
              have E5 : Hid (r = x → R = false) := fun h => HF.out (by
                rintro ⟨-, -, h3⟩
                rw [List.contains_eq_any_beq, List.any_eq_false] at h3
                have := h3 r (by rw [hr]; exact List.getElem_mem hjr)
                rw [h] at this
                simp at this)
              have e1 : ((bs r).toList == s.toList) = (r == x) := by rw [bs_list, HLS.out]
              have e2 : IntKind.i64.wrap ((j : Int) + 1) = ((j + 1 : Nat) : Int) := by rw [IntWalk.i64_in _ (by omega)]; rfl
              clear hr hjq hjr
              by_cases hrx : r = x
              · have e3 : ((bs r).toList == s.toList) = true := by rw [e1]; simpa using hrx
                have HRF := Lib.hid (E5.out hrx)
                clear hrx e1 E4 E5
                generalize bs r = rb at *
                go_wp2_with fail
                go_ret
                exact ⟨ret_bool HRF.out.symm, HW2.out⟩
              · have e3 : ((bs r).toList == s.toList) = false := by rw [e1]; simpa using hrx
                have HN2 := Lib.hid (E4.out hrx)
                clear hrx e1 E4 E5
                generalize bs r = rb at *
                go_wp2_with fail
                go_roundg (21 - (j + 1))
                case measure => omega
                case rel => exact ⟨j + 1, by simp, by omega, Nat.le_refl _, HN2, rfl⟩
            · have hz : ¬ (j : Int) < 21 := by omega
              have hje : j = 21 := by omega
              subst hje
              have HRT : Hid (R = true) := HI.out.2 ⟨HLR.out, HALL.out, by
                rw [List.contains_eq_any_beq, List.any_eq_false]
                intro r hr
                obtain ⟨i, hi⟩ := List.getElem?_of_mem hr
                have hi2 := (List.getElem?_eq_some_iff.1 hi).1
                have := HJ.out i r hi2 hi
                simpa using Ne.symm this⟩
              go_wp2_with fail
              go_ret
              exact ⟨ret_bool HRT.out.symm, HW2.out⟩
end Go.Proofs.Ytjifiijgghpniaa
/-
  Contract of the reference of units: basic.
-/
namespace Go.Proofs.Ytjifiijgghpniaa
open Go.RowKit Un MapKept

theorem eq_cmpT {rr vf : Bool} {vm va vd a b c : Int} (h : rr = (vf && (vm == a && (va == b && vd == c)))) (w : World) : (if vf = true then if vm = a then if va = b then if vd = c then Result.ok (Next.value (Value.bool true)) w else Result.ok (Next.value (Value.bool false)) w else Result.ok (Next.value (Value.bool false)) w else Result.ok (Next.value (Value.bool false)) w else Result.ok (Next.value (Value.bool false)) w) = Result.ok (Next.value (Value.bool rr)) w := by
  subst h
  cases vf <;> by_cases h1 : vm = a <;> by_cases h2 : va = b <;> by_cases h3 : vd = c <;> simp [h1, h2, h3]
theorem eqU5 (u : U) (f : Bool) (m a d : Int) : (u == (⟨f, m, a, d⟩ : U)) = (u.f == f && (u.m == m && (u.a == a && u.d == d))) := by
  obtain ⟨x, y, z, t⟩ := u
  rw [Bool.eq_iff_iff, beq_iff_eq]
  simp
set_option maxRecDepth 100000 in
set_option maxHeartbeats 12000000 in
theorem rbasic_any (u : U) (w : World) : Calls Try.prog 67 #[.agg #[.bool u.f, .int .i64 u.m, .int .i64 u.a, .int .i64 u.d]] w fun e w' => e = .returned (.bool (basic u)) ∧ RowKit.Below w.heap.size w w' := by
  have K1 := Lib.hid rFlag_any
  have K2 := Lib.hid rNumber_any
  have K3 := Lib.hid rMoney_any
  have K4 := Lib.hid rDays_any
  have HR : Hid (basic u = (u == uFlag || u == uNum || u == uMoney || u == uArea || u == uDays)) := rfl
  rw [HR.out]
  clear HR
  have H1 : Hid ((u == uFlag) = (u.f && (u.m == 0 && (u.a == 0 && u.d == 0)))) := by show _ = _; unfold uFlag; rw [eqU5]; simp
  have H2 : Hid ((u == uNum) = (!u.f && (u.m == 0 && (u.a == 0 && u.d == 0)))) := by show _ = _; unfold uNum; rw [eqU5]; simp
  have H3 : Hid ((u == uMoney) = (!u.f && (u.m == 1 && (u.a == 0 && u.d == 0)))) := by show _ = _; unfold uMoney; rw [eqU5]; simp
  have H4 : Hid ((u == uDays) = (!u.f && (u.m == 0 && (u.a == 0 && u.d == 1)))) := by show _ = _; unfold uDays; rw [eqU5]; simp
  have H5 : Hid ((u == uArea) = (!u.f && (u.m == 0 && (u.a == 1 && u.d == 0)))) := by show _ = _; unfold uArea; rw [eqU5]; simp
  generalize (u == uFlag) = r1 at *
  generalize (u == uNum) = r2 at *
  generalize (u == uMoney) = r3 at *
  generalize (u == uDays) = r4 at *
  generalize (u == uArea) = r5 at *
  obtain ⟨uf, um, ua, ud⟩ := u
  simp only at H1 H2 H3 H4 H5 ⊢
  have A1 := (Below.refl w.heap.size w).alloc (Nat.le_refl _) (.cells #[.bool uf, .int .i64 um, .int .i64 ua, .int .i64 ud] 29)
  have X1 := Lib.hid (BoxL.new w [.bool uf, .int .i64 um, .int .i64 ua, .int .i64 ud] 29)
  have HB := Lib.hid A1
  clear A1
  generalize hW1 : w.alloc (.cells #[.bool uf, .int .i64 um, .int .i64 ua, .int .i64 ud] 29) = W1 at *
  obtain ⟨c0, c1, c2, c3, -⟩ := box4 X1.out
  cases r1 with
  | true =>
    go_enter Try.func67, Try.ntmps67
    go_wp2_with fail
    clear hW1
    have hS : W1.drew.cell? ⟨w.heap.size, 0, none⟩ = some (.bool uf) ∧ W1.drew.cell? ⟨w.heap.size, 1, none⟩ = some (.int .i64 um) ∧ W1.drew.cell? ⟨w.heap.size, 2, none⟩ = some (.int .i64 ua) ∧ W1.drew.cell? ⟨w.heap.size, 3, none⟩ = some (.int .i64 ud) := ⟨c0, c1, c2, c3⟩
    refine wp_region_held (S := fun w' : World => w'.cell? ⟨w.heap.size, 0, none⟩ = some (.bool uf) ∧ w'.cell? ⟨w.heap.size, 1, none⟩ = some (.int .i64 um) ∧ w'.cell? ⟨w.heap.size, 2, none⟩ = some (.int .i64 ua) ∧ w'.cell? ⟨w.heap.size, 3, none⟩ = some (.int .i64 ud)) mixed ?_
    change wpAnyH _ _ _ _ _ _ _ _ W1.drew
    have HB0 := Lib.hid HB.out.drew
    clear c0 c1 c2 c3
    refine tk0 (v := ?_) (by kernel_rfl) (by kernel_rfl) (by kernel_rfl) (fun _ _ _ h => h) (Or.inl ⟨by rfl, ?_⟩) hS ?_
    rotate_left
    · (intro w hSw; (try dsimp only at hSw); go_simp; try with_reducible rfl)
    simp only [Act.put, List.setIfInBounds_toArray, List.set_cons_zero, List.set_cons_succ]
    refine wpAnyH_ready (rs := [1]) (by kernel_rfl) (by simp) (st1 (fun K hK => ?_) AllReadyH.nil)
    go_simp
    refine (K1.out _).mono ?_
    rintro _ V1 ⟨rfl, hb⟩
    have S1 := Lib.hid (show V1.cell? ⟨w.heap.size, 0, none⟩ = some (.bool uf) ∧ V1.cell? ⟨w.heap.size, 1, none⟩ = some (.int .i64 um) ∧ V1.cell? ⟨w.heap.size, 2, none⟩ = some (.int .i64 ua) ∧ V1.cell? ⟨w.heap.size, 3, none⟩ = some (.int .i64 ud) from ⟨(hb.cell (World.block_lt_of_cell? _ _ hS.1)).trans hS.1, (hb.cell (World.block_lt_of_cell? _ _ hS.2.1)).trans hS.2.1, (hb.cell (World.block_lt_of_cell? _ _ hS.2.2.1)).trans hS.2.2.1, (hb.cell (World.block_lt_of_cell? _ _ hS.2.2.2)).trans hS.2.2.2⟩)
    have HB1 := Lib.hid (HB0.out.trans (hb.mono HB0.out.size))
    clear hb hS
    go_wp2_with fail
    refine hK.out _ _ ?_ (fun hHeld => ?_)
    · exact S1.out
    clear hK K
    try simp only [Act.put, List.setIfInBounds_toArray, List.set_cons_zero, List.set_cons_succ]
    refine tk2 (v := .bool true) (by kernel_rfl) (by kernel_rfl) (by kernel_rfl) (fun _ _ _ h => h) (Or.inl ⟨by rfl, (by intro w hSw; (try dsimp only at hSw); go_simp; first | exact eq_cmpT H1.out w | (have hh := H1.out; clear H1 H2 H3 H4 H5; revert hh; cases uf <;> simp <;> intros <;> first | omega | (simp_all; done) | (trace_state; omega)))⟩) hHeld ?_
    simp only [Act.put, List.setIfInBounds_toArray, List.set_cons_zero, List.set_cons_succ]
    refine tk3 (v := ?_) (by kernel_rfl) (by kernel_rfl) (by kernel_rfl) (fun _ _ _ h => h) (Or.inl ⟨by rfl, ?_⟩) hHeld ?_
    rotate_left
    · (intro w hSw; (try dsimp only at hSw); go_simp; try with_reducible rfl)
    simp only [Act.put, List.setIfInBounds_toArray, List.set_cons_zero, List.set_cons_succ]
    refine tk4 (v := undef) (by kernel_rfl) (by kernel_rfl) (by kernel_rfl) (fun _ _ _ h => h) (Or.inr ⟨by rfl, rfl⟩) hHeld ?_
    simp only [Act.put, List.setIfInBounds_toArray, List.set_cons_zero, List.set_cons_succ]
    refine wpAnyH_ready (rs := [5]) (by kernel_rfl) (by simp) (st5 (fun K hK => ?_) AllReadyH.nil)
    go_simp
    have hT := hHeld
    refine hK.out _ _ ?_ (fun hHeld => ?_)
    · exact hT
    clear hK K
    try simp only [Act.put, List.setIfInBounds_toArray, List.set_cons_zero, List.set_cons_succ]
    clear hT
    refine tk6 (v := undef) (by kernel_rfl) (by kernel_rfl) (by kernel_rfl) (fun _ _ _ h => h) (Or.inr ⟨by rfl, rfl⟩) hHeld ?_
    simp only [Act.put, List.setIfInBounds_toArray, List.set_cons_zero, List.set_cons_succ]
    refine tk7 (v := ?_) (by kernel_rfl) (by kernel_rfl) (by kernel_rfl) (fun _ _ _ h => h) (Or.inl ⟨by rfl, ?_⟩) hHeld ?_
    rotate_left
    · (intro w hSw; (try dsimp only at hSw); go_simp; try with_reducible rfl)
    simp only [Act.put, List.setIfInBounds_toArray, List.set_cons_zero, List.set_cons_succ]
    refine tk8 (v := ?_) (by kernel_rfl) (by kernel_rfl) (by kernel_rfl) (fun _ _ _ h => h) (Or.inl ⟨by rfl, ?_⟩) hHeld ?_
    rotate_left
    · (intro w hSw; (try dsimp only at hSw); go_simp; try with_reducible rfl)
    simp only [Act.put, List.setIfInBounds_toArray, List.set_cons_zero, List.set_cons_succ]
    refine tk9 (v := undef) (by kernel_rfl) (by kernel_rfl) (by kernel_rfl) (fun _ _ _ h => h) (Or.inr ⟨by rfl, rfl⟩) hHeld ?_
    simp only [Act.put, List.setIfInBounds_toArray, List.set_cons_zero, List.set_cons_succ]
    refine wpAnyH_ready (rs := [10]) (by kernel_rfl) (by simp) (st10 (fun K hK => ?_) AllReadyH.nil)
    go_simp
    have hT := hHeld
    refine hK.out _ _ ?_ (fun hHeld => ?_)
    · exact hT
    clear hK K
    try simp only [Act.put, List.setIfInBounds_toArray, List.set_cons_zero, List.set_cons_succ]
    clear hT
    refine tk11 (v := undef) (by kernel_rfl) (by kernel_rfl) (by kernel_rfl) (fun _ _ _ h => h) (Or.inr ⟨by rfl, rfl⟩) hHeld ?_
    simp only [Act.put, List.setIfInBounds_toArray, List.set_cons_zero, List.set_cons_succ]
    refine tk12 (v := ?_) (by kernel_rfl) (by kernel_rfl) (by kernel_rfl) (fun _ _ _ h => h) (Or.inl ⟨by rfl, ?_⟩) hHeld ?_
    rotate_left
    · (intro w hSw; (try dsimp only at hSw); go_simp; try with_reducible rfl)
    simp only [Act.put, List.setIfInBounds_toArray, List.set_cons_zero, List.set_cons_succ]
    refine tk13 (v := ?_) (by kernel_rfl) (by kernel_rfl) (by kernel_rfl) (fun _ _ _ h => h) (Or.inl ⟨by rfl, ?_⟩) hHeld ?_
    rotate_left
    · (intro w hSw; (try dsimp only at hSw); go_simp; try with_reducible rfl)
    simp only [Act.put, List.setIfInBounds_toArray, List.set_cons_zero, List.set_cons_succ]
    refine tk14 (v := undef) (by kernel_rfl) (by kernel_rfl) (by kernel_rfl) (fun _ _ _ h => h) (Or.inr ⟨by rfl, rfl⟩) hHeld ?_
    simp only [Act.put, List.setIfInBounds_toArray, List.set_cons_zero, List.set_cons_succ]
    refine wpAnyH_ready (rs := [15]) (by kernel_rfl) (by simp) (st15 (fun K hK => ?_) AllReadyH.nil)
    go_simp
    have hT := hHeld
    refine hK.out _ _ ?_ (fun hHeld => ?_)
    · exact hT
    clear hK K
    try simp only [Act.put, List.setIfInBounds_toArray, List.set_cons_zero, List.set_cons_succ]
    clear hT
    refine tk16 (v := undef) (by kernel_rfl) (by kernel_rfl) (by kernel_rfl) (fun _ _ _ h => h) (Or.inr ⟨by rfl, rfl⟩) hHeld ?_
    simp only [Act.put, List.setIfInBounds_toArray, List.set_cons_zero, List.set_cons_succ]
    refine tk17 (v := ?_) (by kernel_rfl) (by kernel_rfl) (by kernel_rfl) (fun _ _ _ h => h) (Or.inl ⟨by rfl, ?_⟩) hHeld ?_
    rotate_left
    · (intro w hSw; (try dsimp only at hSw); go_simp; try with_reducible rfl)
    simp only [Act.put, List.setIfInBounds_toArray, List.set_cons_zero, List.set_cons_succ]
    refine tk18 (v := ?_) (by kernel_rfl) (by kernel_rfl) (by kernel_rfl) (fun _ _ _ h => h) (Or.inl ⟨by rfl, ?_⟩) hHeld ?_
    rotate_left
    · (intro w hSw; (try dsimp only at hSw); go_simp; try with_reducible rfl)
    simp only [Act.put, List.setIfInBounds_toArray, List.set_cons_zero, List.set_cons_succ]
    refine tk19 (v := undef) (by kernel_rfl) (by kernel_rfl) (by kernel_rfl) (fun _ _ _ h => h) (Or.inr ⟨by rfl, rfl⟩) hHeld ?_
    simp only [Act.put, List.setIfInBounds_toArray, List.set_cons_zero, List.set_cons_succ]
    refine tk20 (v := undef) (by kernel_rfl) (by kernel_rfl) (by kernel_rfl) (fun _ _ _ h => h) (Or.inr ⟨by rfl, rfl⟩) hHeld ?_
    simp only [Act.put, List.setIfInBounds_toArray, List.set_cons_zero, List.set_cons_succ]
    refine tk21 (v := undef) (by kernel_rfl) (by kernel_rfl) (by kernel_rfl) (fun _ _ _ h => h) (Or.inr ⟨by rfl, rfl⟩) hHeld ?_
    simp only [Act.put, List.setIfInBounds_toArray, List.set_cons_zero, List.set_cons_succ]
    refine tk22 (v := ?_) (by kernel_rfl) (by kernel_rfl) (by kernel_rfl) (fun _ _ _ h => h) (Or.inl ⟨by rfl, ?_⟩) hHeld ?_
    rotate_left
    · (intro w hSw; (try dsimp only at hSw); go_simp; try with_reducible rfl)
    simp only [Act.put, List.setIfInBounds_toArray, List.set_cons_zero, List.set_cons_succ]
    refine tk23 (v := ?_) (by kernel_rfl) (by kernel_rfl) (by kernel_rfl) (fun _ _ _ h => h) (Or.inl ⟨by rfl, ?_⟩) hHeld ?_
    rotate_left
    · (intro w hSw; (try dsimp only at hSw); go_simp; try with_reducible rfl)
    simp only [Act.put, List.setIfInBounds_toArray, List.set_cons_zero, List.set_cons_succ]
    refine wpAnyH_done (by kernel_rfl) ?_ _
    go_wp2_with fail
    go_ret
    exact ⟨by simp, HB1.out⟩
  | false =>
    cases r2 with
    | true =>
      go_enter Try.func67, Try.ntmps67
      go_wp2_with fail
      clear hW1
      have hS : W1.drew.cell? ⟨w.heap.size, 0, none⟩ = some (.bool uf) ∧ W1.drew.cell? ⟨w.heap.size, 1, none⟩ = some (.int .i64 um) ∧ W1.drew.cell? ⟨w.heap.size, 2, none⟩ = some (.int .i64 ua) ∧ W1.drew.cell? ⟨w.heap.size, 3, none⟩ = some (.int .i64 ud) := ⟨c0, c1, c2, c3⟩
      refine wp_region_held (S := fun w' : World => w'.cell? ⟨w.heap.size, 0, none⟩ = some (.bool uf) ∧ w'.cell? ⟨w.heap.size, 1, none⟩ = some (.int .i64 um) ∧ w'.cell? ⟨w.heap.size, 2, none⟩ = some (.int .i64 ua) ∧ w'.cell? ⟨w.heap.size, 3, none⟩ = some (.int .i64 ud)) mixed ?_
      change wpAnyH _ _ _ _ _ _ _ _ W1.drew
      have HB0 := Lib.hid HB.out.drew
      clear c0 c1 c2 c3
      refine tk0 (v := ?_) (by kernel_rfl) (by kernel_rfl) (by kernel_rfl) (fun _ _ _ h => h) (Or.inl ⟨by rfl, ?_⟩) hS ?_
      rotate_left
      · (intro w hSw; (try dsimp only at hSw); go_simp; try with_reducible rfl)
      simp only [Act.put, List.setIfInBounds_toArray, List.set_cons_zero, List.set_cons_succ]
      refine wpAnyH_ready (rs := [1]) (by kernel_rfl) (by simp) (st1 (fun K hK => ?_) AllReadyH.nil)
      go_simp
      refine (K1.out _).mono ?_
      rintro _ V1 ⟨rfl, hb⟩
      have S1 := Lib.hid (show V1.cell? ⟨w.heap.size, 0, none⟩ = some (.bool uf) ∧ V1.cell? ⟨w.heap.size, 1, none⟩ = some (.int .i64 um) ∧ V1.cell? ⟨w.heap.size, 2, none⟩ = some (.int .i64 ua) ∧ V1.cell? ⟨w.heap.size, 3, none⟩ = some (.int .i64 ud) from ⟨(hb.cell (World.block_lt_of_cell? _ _ hS.1)).trans hS.1, (hb.cell (World.block_lt_of_cell? _ _ hS.2.1)).trans hS.2.1, (hb.cell (World.block_lt_of_cell? _ _ hS.2.2.1)).trans hS.2.2.1, (hb.cell (World.block_lt_of_cell? _ _ hS.2.2.2)).trans hS.2.2.2⟩)
      have HB1 := Lib.hid (HB0.out.trans (hb.mono HB0.out.size))
      clear hb hS
      go_wp2_with fail
      refine hK.out _ _ ?_ (fun hHeld => ?_)
      · exact S1.out
      clear hK K
      try simp only [Act.put, List.setIfInBounds_toArray, List.set_cons_zero, List.set_cons_succ]
      refine tk2 (v := .bool false) (by kernel_rfl) (by kernel_rfl) (by kernel_rfl) (fun _ _ _ h => h) (Or.inl ⟨by rfl, (by intro w hSw; (try dsimp only at hSw); go_simp; first | exact eq_cmpT H1.out w | (have hh := H1.out; clear H1 H2 H3 H4 H5; revert hh; cases uf <;> simp <;> intros <;> first | omega | (simp_all; done) | (trace_state; omega)))⟩) hHeld ?_
      simp only [Act.put, List.setIfInBounds_toArray, List.set_cons_zero, List.set_cons_succ]
      refine tk3 (v := ?_) (by kernel_rfl) (by kernel_rfl) (by kernel_rfl) (fun _ _ _ h => h) (Or.inl ⟨by rfl, ?_⟩) hHeld ?_
      rotate_left
      · (intro w hSw; (try dsimp only at hSw); go_simp; try with_reducible rfl)
      simp only [Act.put, List.setIfInBounds_toArray, List.set_cons_zero, List.set_cons_succ]
      refine tk4 (v := ?_) (by kernel_rfl) (by kernel_rfl) (by kernel_rfl) (fun _ _ _ h => h) (Or.inl ⟨by rfl, ?_⟩) hHeld ?_
      rotate_left
      · (intro w hSw; (try dsimp only at hSw); go_simp; try with_reducible rfl)
      simp only [Act.put, List.setIfInBounds_toArray, List.set_cons_zero, List.set_cons_succ]
      refine wpAnyH_ready (rs := [5]) (by kernel_rfl) (by simp) (st5 (fun K hK => ?_) AllReadyH.nil)
      go_simp
      refine (K2.out _).mono ?_
      rintro _ V2 ⟨rfl, hb⟩
      have S2 := Lib.hid (show V2.cell? ⟨w.heap.size, 0, none⟩ = some (.bool uf) ∧ V2.cell? ⟨w.heap.size, 1, none⟩ = some (.int .i64 um) ∧ V2.cell? ⟨w.heap.size, 2, none⟩ = some (.int .i64 ua) ∧ V2.cell? ⟨w.heap.size, 3, none⟩ = some (.int .i64 ud) from ⟨(hb.cell (World.block_lt_of_cell? _ _ hHeld.1)).trans hHeld.1, (hb.cell (World.block_lt_of_cell? _ _ hHeld.2.1)).trans hHeld.2.1, (hb.cell (World.block_lt_of_cell? _ _ hHeld.2.2.1)).trans hHeld.2.2.1, (hb.cell (World.block_lt_of_cell? _ _ hHeld.2.2.2)).trans hHeld.2.2.2⟩)
      have HB2 := Lib.hid (HB1.out.trans (hb.mono HB1.out.size))
      clear hb hHeld
      go_wp2_with fail
      refine hK.out _ _ ?_ (fun hHeld => ?_)
      · exact S2.out
      clear hK K
      try simp only [Act.put, List.setIfInBounds_toArray, List.set_cons_zero, List.set_cons_succ]
      refine tk6 (v := .bool true) (by kernel_rfl) (by kernel_rfl) (by kernel_rfl) (fun _ _ _ h => h) (Or.inl ⟨by rfl, (by intro w hSw; (try dsimp only at hSw); go_simp; first | exact eq_cmp H2.out w | (have hh := H2.out; clear H1 H2 H3 H4 H5; revert hh; cases uf <;> simp <;> intros <;> first | omega | (simp_all; done) | (trace_state; omega)))⟩) hHeld ?_
      simp only [Act.put, List.setIfInBounds_toArray, List.set_cons_zero, List.set_cons_succ]
      refine tk7 (v := ?_) (by kernel_rfl) (by kernel_rfl) (by kernel_rfl) (fun _ _ _ h => h) (Or.inl ⟨by rfl, ?_⟩) hHeld ?_
      rotate_left
      · (intro w hSw; (try dsimp only at hSw); go_simp; try with_reducible rfl)
      simp only [Act.put, List.setIfInBounds_toArray, List.set_cons_zero, List.set_cons_succ]
      refine tk8 (v := ?_) (by kernel_rfl) (by kernel_rfl) (by kernel_rfl) (fun _ _ _ h => h) (Or.inl ⟨by rfl, ?_⟩) hHeld ?_
      rotate_left
      · (intro w hSw; (try dsimp only at hSw); go_simp; try with_reducible rfl)
      simp only [Act.put, List.setIfInBounds_toArray, List.set_cons_zero, List.set_cons_succ]
      refine tk9 (v := undef) (by kernel_rfl) (by kernel_rfl) (by kernel_rfl) (fun _ _ _ h => h) (Or.inr ⟨by rfl, rfl⟩) hHeld ?_
      simp only [Act.put, List.setIfInBounds_toArray, List.set_cons_zero, List.set_cons_succ]
      refine wpAnyH_ready (rs := [10]) (by kernel_rfl) (by simp) (st10 (fun K hK => ?_) AllReadyH.nil)
      go_simp
      have hT := hHeld
      refine hK.out _ _ ?_ (fun hHeld => ?_)
      · exact hT
      clear hK K
      try simp only [Act.put, List.setIfInBounds_toArray, List.set_cons_zero, List.set_cons_succ]
      clear hT
      refine tk11 (v := undef) (by kernel_rfl) (by kernel_rfl) (by kernel_rfl) (fun _ _ _ h => h) (Or.inr ⟨by rfl, rfl⟩) hHeld ?_
      simp only [Act.put, List.setIfInBounds_toArray, List.set_cons_zero, List.set_cons_succ]
      refine tk12 (v := ?_) (by kernel_rfl) (by kernel_rfl) (by kernel_rfl) (fun _ _ _ h => h) (Or.inl ⟨by rfl, ?_⟩) hHeld ?_
      rotate_left
      · (intro w hSw; (try dsimp only at hSw); go_simp; try with_reducible rfl)
      simp only [Act.put, List.setIfInBounds_toArray, List.set_cons_zero, List.set_cons_succ]
      refine tk13 (v := ?_) (by kernel_rfl) (by kernel_rfl) (by kernel_rfl) (fun _ _ _ h => h) (Or.inl ⟨by rfl, ?_⟩) hHeld ?_
      rotate_left
      · (intro w hSw; (try dsimp only at hSw); go_simp; try with_reducible rfl)
      simp only [Act.put, List.setIfInBounds_toArray, List.set_cons_zero, List.set_cons_succ]
      refine tk14 (v := undef) (by kernel_rfl) (by kernel_rfl) (by kernel_rfl) (fun _ _ _ h => h) (Or.inr ⟨by rfl, rfl⟩) hHeld ?_
      simp only [Act.put, List.setIfInBounds_toArray, List.set_cons_zero, List.set_cons_succ]
      refine wpAnyH_ready (rs := [15]) (by kernel_rfl) (by simp) (st15 (fun K hK => ?_) AllReadyH.nil)
      go_simp
      have hT := hHeld
      refine hK.out _ _ ?_ (fun hHeld => ?_)
      · exact hT
      clear hK K
      try simp only [Act.put, List.setIfInBounds_toArray, List.set_cons_zero, List.set_cons_succ]
      clear hT
      refine tk16 (v := undef) (by kernel_rfl) (by kernel_rfl) (by kernel_rfl) (fun _ _ _ h => h) (Or.inr ⟨by rfl, rfl⟩) hHeld ?_
      simp only [Act.put, List.setIfInBounds_toArray, List.set_cons_zero, List.set_cons_succ]
      refine tk17 (v := ?_) (by kernel_rfl) (by kernel_rfl) (by kernel_rfl) (fun _ _ _ h => h) (Or.inl ⟨by rfl, ?_⟩) hHeld ?_
      rotate_left
      · (intro w hSw; (try dsimp only at hSw); go_simp; try with_reducible rfl)
      simp only [Act.put, List.setIfInBounds_toArray, List.set_cons_zero, List.set_cons_succ]
      refine tk18 (v := ?_) (by kernel_rfl) (by kernel_rfl) (by kernel_rfl) (fun _ _ _ h => h) (Or.inl ⟨by rfl, ?_⟩) hHeld ?_
      rotate_left
      · (intro w hSw; (try dsimp only at hSw); go_simp; try with_reducible rfl)
      simp only [Act.put, List.setIfInBounds_toArray, List.set_cons_zero, List.set_cons_succ]
      refine tk19 (v := undef) (by kernel_rfl) (by kernel_rfl) (by kernel_rfl) (fun _ _ _ h => h) (Or.inr ⟨by rfl, rfl⟩) hHeld ?_
      simp only [Act.put, List.setIfInBounds_toArray, List.set_cons_zero, List.set_cons_succ]
      refine tk20 (v := undef) (by kernel_rfl) (by kernel_rfl) (by kernel_rfl) (fun _ _ _ h => h) (Or.inr ⟨by rfl, rfl⟩) hHeld ?_
      simp only [Act.put, List.setIfInBounds_toArray, List.set_cons_zero, List.set_cons_succ]
      refine tk21 (v := undef) (by kernel_rfl) (by kernel_rfl) (by kernel_rfl) (fun _ _ _ h => h) (Or.inr ⟨by rfl, rfl⟩) hHeld ?_
      simp only [Act.put, List.setIfInBounds_toArray, List.set_cons_zero, List.set_cons_succ]
      refine tk22 (v := ?_) (by kernel_rfl) (by kernel_rfl) (by kernel_rfl) (fun _ _ _ h => h) (Or.inl ⟨by rfl, ?_⟩) hHeld ?_
      rotate_left
      · (intro w hSw; (try dsimp only at hSw); go_simp; try with_reducible rfl)
      simp only [Act.put, List.setIfInBounds_toArray, List.set_cons_zero, List.set_cons_succ]
      refine tk23 (v := ?_) (by kernel_rfl) (by kernel_rfl) (by kernel_rfl) (fun _ _ _ h => h) (Or.inl ⟨by rfl, ?_⟩) hHeld ?_
      rotate_left
      · (intro w hSw; (try dsimp only at hSw); go_simp; try with_reducible rfl)
      simp only [Act.put, List.setIfInBounds_toArray, List.set_cons_zero, List.set_cons_succ]
      refine wpAnyH_done (by kernel_rfl) ?_ _
      go_wp2_with fail
      go_ret
      exact ⟨by simp, HB2.out⟩
    | false =>
      cases r3 with
      | true =>
        go_enter Try.func67, Try.ntmps67
        go_wp2_with fail
        clear hW1
        have hS : W1.drew.cell? ⟨w.heap.size, 0, none⟩ = some (.bool uf) ∧ W1.drew.cell? ⟨w.heap.size, 1, none⟩ = some (.int .i64 um) ∧ W1.drew.cell? ⟨w.heap.size, 2, none⟩ = some (.int .i64 ua) ∧ W1.drew.cell? ⟨w.heap.size, 3, none⟩ = some (.int .i64 ud) := ⟨c0, c1, c2, c3⟩
        refine wp_region_held (S := fun w' : World => w'.cell? ⟨w.heap.size, 0, none⟩ = some (.bool uf) ∧ w'.cell? ⟨w.heap.size, 1, none⟩ = some (.int .i64 um) ∧ w'.cell? ⟨w.heap.size, 2, none⟩ = some (.int .i64 ua) ∧ w'.cell? ⟨w.heap.size, 3, none⟩ = some (.int .i64 ud)) mixed ?_
        change wpAnyH _ _ _ _ _ _ _ _ W1.drew
        have HB0 := Lib.hid HB.out.drew
        clear c0 c1 c2 c3
        refine tk0 (v := ?_) (by kernel_rfl) (by kernel_rfl) (by kernel_rfl) (fun _ _ _ h => h) (Or.inl ⟨by rfl, ?_⟩) hS ?_
        rotate_left
        · (intro w hSw; (try dsimp only at hSw); go_simp; try with_reducible rfl)
        simp only [Act.put, List.setIfInBounds_toArray, List.set_cons_zero, List.set_cons_succ]
        refine wpAnyH_ready (rs := [1]) (by kernel_rfl) (by simp) (st1 (fun K hK => ?_) AllReadyH.nil)
        go_simp
        refine (K1.out _).mono ?_
        rintro _ V1 ⟨rfl, hb⟩
        have S1 := Lib.hid (show V1.cell? ⟨w.heap.size, 0, none⟩ = some (.bool uf) ∧ V1.cell? ⟨w.heap.size, 1, none⟩ = some (.int .i64 um) ∧ V1.cell? ⟨w.heap.size, 2, none⟩ = some (.int .i64 ua) ∧ V1.cell? ⟨w.heap.size, 3, none⟩ = some (.int .i64 ud) from ⟨(hb.cell (World.block_lt_of_cell? _ _ hS.1)).trans hS.1, (hb.cell (World.block_lt_of_cell? _ _ hS.2.1)).trans hS.2.1, (hb.cell (World.block_lt_of_cell? _ _ hS.2.2.1)).trans hS.2.2.1, (hb.cell (World.block_lt_of_cell? _ _ hS.2.2.2)).trans hS.2.2.2⟩)
        have HB1 := Lib.hid (HB0.out.trans (hb.mono HB0.out.size))
        clear hb hS
        go_wp2_with fail
        refine hK.out _ _ ?_ (fun hHeld => ?_)
        · exact S1.out
        clear hK K
        try simp only [Act.put, List.setIfInBounds_toArray, List.set_cons_zero, List.set_cons_succ]
        refine tk2 (v := .bool false) (by kernel_rfl) (by kernel_rfl) (by kernel_rfl) (fun _ _ _ h => h) (Or.inl ⟨by rfl, (by intro w hSw; (try dsimp only at hSw); go_simp; first | exact eq_cmpT H1.out w | (have hh := H1.out; clear H1 H2 H3 H4 H5; revert hh; cases uf <;> simp <;> intros <;> first | omega | (simp_all; done) | (trace_state; omega)))⟩) hHeld ?_
        simp only [Act.put, List.setIfInBounds_toArray, List.set_cons_zero, List.set_cons_succ]
        refine tk3 (v := ?_) (by kernel_rfl) (by kernel_rfl) (by kernel_rfl) (fun _ _ _ h => h) (Or.inl ⟨by rfl, ?_⟩) hHeld ?_
        rotate_left
        · (intro w hSw; (try dsimp only at hSw); go_simp; try with_reducible rfl)
        simp only [Act.put, List.setIfInBounds_toArray, List.set_cons_zero, List.set_cons_succ]
        refine tk4 (v := ?_) (by kernel_rfl) (by kernel_rfl) (by kernel_rfl) (fun _ _ _ h => h) (Or.inl ⟨by rfl, ?_⟩) hHeld ?_
        rotate_left
        · (intro w hSw; (try dsimp only at hSw); go_simp; try with_reducible rfl)
        simp only [Act.put, List.setIfInBounds_toArray, List.set_cons_zero, List.set_cons_succ]
        refine wpAnyH_ready (rs := [5]) (by kernel_rfl) (by simp) (st5 (fun K hK => ?_) AllReadyH.nil)
        go_simp
        refine (K2.out _).mono ?_
        rintro _ V2 ⟨rfl, hb⟩
        have S2 := Lib.hid (show V2.cell? ⟨w.heap.size, 0, none⟩ = some (.bool uf) ∧ V2.cell? ⟨w.heap.size, 1, none⟩ = some (.int .i64 um) ∧ V2.cell? ⟨w.heap.size, 2, none⟩ = some (.int .i64 ua) ∧ V2.cell? ⟨w.heap.size, 3, none⟩ = some (.int .i64 ud) from ⟨(hb.cell (World.block_lt_of_cell? _ _ hHeld.1)).trans hHeld.1, (hb.cell (World.block_lt_of_cell? _ _ hHeld.2.1)).trans hHeld.2.1, (hb.cell (World.block_lt_of_cell? _ _ hHeld.2.2.1)).trans hHeld.2.2.1, (hb.cell (World.block_lt_of_cell? _ _ hHeld.2.2.2)).trans hHeld.2.2.2⟩)
        have HB2 := Lib.hid (HB1.out.trans (hb.mono HB1.out.size))
        clear hb hHeld
        go_wp2_with fail
        refine hK.out _ _ ?_ (fun hHeld => ?_)
        · exact S2.out
        clear hK K
        try simp only [Act.put, List.setIfInBounds_toArray, List.set_cons_zero, List.set_cons_succ]
        refine tk6 (v := .bool false) (by kernel_rfl) (by kernel_rfl) (by kernel_rfl) (fun _ _ _ h => h) (Or.inl ⟨by rfl, (by intro w hSw; (try dsimp only at hSw); go_simp; first | exact eq_cmp H2.out w | (have hh := H2.out; clear H1 H2 H3 H4 H5; revert hh; cases uf <;> simp <;> intros <;> first | omega | (simp_all; done) | (trace_state; omega)))⟩) hHeld ?_
        simp only [Act.put, List.setIfInBounds_toArray, List.set_cons_zero, List.set_cons_succ]
        refine tk7 (v := ?_) (by kernel_rfl) (by kernel_rfl) (by kernel_rfl) (fun _ _ _ h => h) (Or.inl ⟨by rfl, ?_⟩) hHeld ?_
        rotate_left
        · (intro w hSw; (try dsimp only at hSw); go_simp; try with_reducible rfl)
        simp only [Act.put, List.setIfInBounds_toArray, List.set_cons_zero, List.set_cons_succ]
        refine tk8 (v := ?_) (by kernel_rfl) (by kernel_rfl) (by kernel_rfl) (fun _ _ _ h => h) (Or.inl ⟨by rfl, ?_⟩) hHeld ?_
        rotate_left
        · (intro w hSw; (try dsimp only at hSw); go_simp; try with_reducible rfl)
        simp only [Act.put, List.setIfInBounds_toArray, List.set_cons_zero, List.set_cons_succ]
        refine tk9 (v := ?_) (by kernel_rfl) (by kernel_rfl) (by kernel_rfl) (fun _ _ _ h => h) (Or.inl ⟨by rfl, ?_⟩) hHeld ?_
        rotate_left
        · (intro w hSw; (try dsimp only at hSw); go_simp; try with_reducible rfl)
        simp only [Act.put, List.setIfInBounds_toArray, List.set_cons_zero, List.set_cons_succ]
        refine wpAnyH_ready (rs := [10]) (by kernel_rfl) (by simp) (st10 (fun K hK => ?_) AllReadyH.nil)
        go_simp
        refine (K3.out _).mono ?_
        rintro _ V3 ⟨rfl, hb⟩
        have S3 := Lib.hid (show V3.cell? ⟨w.heap.size, 0, none⟩ = some (.bool uf) ∧ V3.cell? ⟨w.heap.size, 1, none⟩ = some (.int .i64 um) ∧ V3.cell? ⟨w.heap.size, 2, none⟩ = some (.int .i64 ua) ∧ V3.cell? ⟨w.heap.size, 3, none⟩ = some (.int .i64 ud) from ⟨(hb.cell (World.block_lt_of_cell? _ _ hHeld.1)).trans hHeld.1, (hb.cell (World.block_lt_of_cell? _ _ hHeld.2.1)).trans hHeld.2.1, (hb.cell (World.block_lt_of_cell? _ _ hHeld.2.2.1)).trans hHeld.2.2.1, (hb.cell (World.block_lt_of_cell? _ _ hHeld.2.2.2)).trans hHeld.2.2.2⟩)
        have HB3 := Lib.hid (HB2.out.trans (hb.mono HB2.out.size))
        clear hb hHeld
        go_wp2_with fail
        refine hK.out _ _ ?_ (fun hHeld => ?_)
        · exact S3.out
        clear hK K
        try simp only [Act.put, List.setIfInBounds_toArray, List.set_cons_zero, List.set_cons_succ]
        refine tk11 (v := .bool true) (by kernel_rfl) (by kernel_rfl) (by kernel_rfl) (fun _ _ _ h => h) (Or.inl ⟨by rfl, (by intro w hSw; (try dsimp only at hSw); go_simp; first | exact eq_cmp H3.out w | (have hh := H3.out; clear H1 H2 H3 H4 H5; revert hh; cases uf <;> simp <;> intros <;> first | omega | (simp_all; done) | (trace_state; omega)))⟩) hHeld ?_
        simp only [Act.put, List.setIfInBounds_toArray, List.set_cons_zero, List.set_cons_succ]
        refine tk12 (v := ?_) (by kernel_rfl) (by kernel_rfl) (by kernel_rfl) (fun _ _ _ h => h) (Or.inl ⟨by rfl, ?_⟩) hHeld ?_
        rotate_left
        · (intro w hSw; (try dsimp only at hSw); go_simp; try with_reducible rfl)
        simp only [Act.put, List.setIfInBounds_toArray, List.set_cons_zero, List.set_cons_succ]
        refine tk13 (v := ?_) (by kernel_rfl) (by kernel_rfl) (by kernel_rfl) (fun _ _ _ h => h) (Or.inl ⟨by rfl, ?_⟩) hHeld ?_
        rotate_left
        · (intro w hSw; (try dsimp only at hSw); go_simp; try with_reducible rfl)
        simp only [Act.put, List.setIfInBounds_toArray, List.set_cons_zero, List.set_cons_succ]
        refine tk14 (v := undef) (by kernel_rfl) (by kernel_rfl) (by kernel_rfl) (fun _ _ _ h => h) (Or.inr ⟨by rfl, rfl⟩) hHeld ?_
        simp only [Act.put, List.setIfInBounds_toArray, List.set_cons_zero, List.set_cons_succ]
        refine wpAnyH_ready (rs := [15]) (by kernel_rfl) (by simp) (st15 (fun K hK => ?_) AllReadyH.nil)
        go_simp
        have hT := hHeld
        refine hK.out _ _ ?_ (fun hHeld => ?_)
        · exact hT
        clear hK K
        try simp only [Act.put, List.setIfInBounds_toArray, List.set_cons_zero, List.set_cons_succ]
        clear hT
        refine tk16 (v := undef) (by kernel_rfl) (by kernel_rfl) (by kernel_rfl) (fun _ _ _ h => h) (Or.inr ⟨by rfl, rfl⟩) hHeld ?_
        simp only [Act.put, List.setIfInBounds_toArray, List.set_cons_zero, List.set_cons_succ]
        refine tk17 (v := ?_) (by kernel_rfl) (by kernel_rfl) (by kernel_rfl) (fun _ _ _ h => h) (Or.inl ⟨by rfl, ?_⟩) hHeld ?_
        rotate_left
        · (intro w hSw; (try dsimp only at hSw); go_simp; try with_reducible rfl)
        simp only [Act.put, List.setIfInBounds_toArray, List.set_cons_zero, List.set_cons_succ]
        refine tk18 (v := ?_) (by kernel_rfl) (by kernel_rfl) (by kernel_rfl) (fun _ _ _ h => h) (Or.inl ⟨by rfl, ?_⟩) hHeld ?_
        rotate_left
        · (intro w hSw; (try dsimp only at hSw); go_simp; try with_reducible rfl)
        simp only [Act.put, List.setIfInBounds_toArray, List.set_cons_zero, List.set_cons_succ]
        refine tk19 (v := undef) (by kernel_rfl) (by kernel_rfl) (by kernel_rfl) (fun _ _ _ h => h) (Or.inr ⟨by rfl, rfl⟩) hHeld ?_
        simp only [Act.put, List.setIfInBounds_toArray, List.set_cons_zero, List.set_cons_succ]
        refine tk20 (v := undef) (by kernel_rfl) (by kernel_rfl) (by kernel_rfl) (fun _ _ _ h => h) (Or.inr ⟨by rfl, rfl⟩) hHeld ?_
        simp only [Act.put, List.setIfInBounds_toArray, List.set_cons_zero, List.set_cons_succ]
        refine tk21 (v := undef) (by kernel_rfl) (by kernel_rfl) (by kernel_rfl) (fun _ _ _ h => h) (Or.inr ⟨by rfl, rfl⟩) hHeld ?_
        simp only [Act.put, List.setIfInBounds_toArray, List.set_cons_zero, List.set_cons_succ]
        refine tk22 (v := ?_) (by kernel_rfl) (by kernel_rfl) (by kernel_rfl) (fun _ _ _ h => h) (Or.inl ⟨by rfl, ?_⟩) hHeld ?_
        rotate_left
        · (intro w hSw; (try dsimp only at hSw); go_simp; try with_reducible rfl)
        simp only [Act.put, List.setIfInBounds_toArray, List.set_cons_zero, List.set_cons_succ]
        refine tk23 (v := ?_) (by kernel_rfl) (by kernel_rfl) (by kernel_rfl) (fun _ _ _ h => h) (Or.inl ⟨by rfl, ?_⟩) hHeld ?_
        rotate_left
        · (intro w hSw; (try dsimp only at hSw); go_simp; try with_reducible rfl)
        simp only [Act.put, List.setIfInBounds_toArray, List.set_cons_zero, List.set_cons_succ]
        refine wpAnyH_done (by kernel_rfl) ?_ _
        go_wp2_with fail
        go_ret
        exact ⟨by simp, HB3.out⟩
      | false =>
        cases r4 with
        | true =>
          go_enter Try.func67, Try.ntmps67
          go_wp2_with fail
          clear hW1
          have hS : W1.drew.cell? ⟨w.heap.size, 0, none⟩ = some (.bool uf) ∧ W1.drew.cell? ⟨w.heap.size, 1, none⟩ = some (.int .i64 um) ∧ W1.drew.cell? ⟨w.heap.size, 2, none⟩ = some (.int .i64 ua) ∧ W1.drew.cell? ⟨w.heap.size, 3, none⟩ = some (.int .i64 ud) := ⟨c0, c1, c2, c3⟩
          refine wp_region_held (S := fun w' : World => w'.cell? ⟨w.heap.size, 0, none⟩ = some (.bool uf) ∧ w'.cell? ⟨w.heap.size, 1, none⟩ = some (.int .i64 um) ∧ w'.cell? ⟨w.heap.size, 2, none⟩ = some (.int .i64 ua) ∧ w'.cell? ⟨w.heap.size, 3, none⟩ = some (.int .i64 ud)) mixed ?_
          change wpAnyH _ _ _ _ _ _ _ _ W1.drew
          have HB0 := Lib.hid HB.out.drew
          clear c0 c1 c2 c3
          refine tk0 (v := ?_) (by kernel_rfl) (by kernel_rfl) (by kernel_rfl) (fun _ _ _ h => h) (Or.inl ⟨by rfl, ?_⟩) hS ?_
          rotate_left
          · (intro w hSw; (try dsimp only at hSw); go_simp; try with_reducible rfl)
          simp only [Act.put, List.setIfInBounds_toArray, List.set_cons_zero, List.set_cons_succ]
          refine wpAnyH_ready (rs := [1]) (by kernel_rfl) (by simp) (st1 (fun K hK => ?_) AllReadyH.nil)
          go_simp
          refine (K1.out _).mono ?_
          rintro _ V1 ⟨rfl, hb⟩
          have S1 := Lib.hid (show V1.cell? ⟨w.heap.size, 0, none⟩ = some (.bool uf) ∧ V1.cell? ⟨w.heap.size, 1, none⟩ = some (.int .i64 um) ∧ V1.cell? ⟨w.heap.size, 2, none⟩ = some (.int .i64 ua) ∧ V1.cell? ⟨w.heap.size, 3, none⟩ = some (.int .i64 ud) from ⟨(hb.cell (World.block_lt_of_cell? _ _ hS.1)).trans hS.1, (hb.cell (World.block_lt_of_cell? _ _ hS.2.1)).trans hS.2.1, (hb.cell (World.block_lt_of_cell? _ _ hS.2.2.1)).trans hS.2.2.1, (hb.cell (World.block_lt_of_cell? _ _ hS.2.2.2)).trans hS.2.2.2⟩)
          have HB1 := Lib.hid (HB0.out.trans (hb.mono HB0.out.size))
          clear hb hS
          go_wp2_with fail
          refine hK.out _ _ ?_ (fun hHeld => ?_)
          · exact S1.out
          clear hK K
          try simp only [Act.put, List.setIfInBounds_toArray, List.set_cons_zero, List.set_cons_succ]
          refine tk2 (v := .bool false) (by kernel_rfl) (by kernel_rfl) (by kernel_rfl) (fun _ _ _ h => h) (Or.inl ⟨by rfl, (by intro w hSw; (try dsimp only at hSw); go_simp; first | exact eq_cmpT H1.out w | (have hh := H1.out; clear H1 H2 H3 H4 H5; revert hh; cases uf <;> simp <;> intros <;> first | omega | (simp_all; done) | (trace_state; omega)))⟩) hHeld ?_
          simp only [Act.put, List.setIfInBounds_toArray, List.set_cons_zero, List.set_cons_succ]
          refine tk3 (v := ?_) (by kernel_rfl) (by kernel_rfl) (by kernel_rfl) (fun _ _ _ h => h) (Or.inl ⟨by rfl, ?_⟩) hHeld ?_
          rotate_left
          · (intro w hSw; (try dsimp only at hSw); go_simp; try with_reducible rfl)
          simp only [Act.put, List.setIfInBounds_toArray, List.set_cons_zero, List.set_cons_succ]
          refine tk4 (v := ?_) (by kernel_rfl) (by kernel_rfl) (by kernel_rfl) (fun _ _ _ h => h) (Or.inl ⟨by rfl, ?_⟩) hHeld ?_
          rotate_left
          · (intro w hSw; (try dsimp only at hSw); go_simp; try with_reducible rfl)
          simp only [Act.put, List.setIfInBounds_toArray, List.set_cons_zero, List.set_cons_succ]
          refine wpAnyH_ready (rs := [5]) (by kernel_rfl) (by simp) (st5 (fun K hK => ?_) AllReadyH.nil)
          go_simp
          refine (K2.out _).mono ?_
          rintro _ V2 ⟨rfl, hb⟩
          have S2 := Lib.hid (show V2.cell? ⟨w.heap.size, 0, none⟩ = some (.bool uf) ∧ V2.cell? ⟨w.heap.size, 1, none⟩ = some (.int .i64 um) ∧ V2.cell? ⟨w.heap.size, 2, none⟩ = some (.int .i64 ua) ∧ V2.cell? ⟨w.heap.size, 3, none⟩ = some (.int .i64 ud) from ⟨(hb.cell (World.block_lt_of_cell? _ _ hHeld.1)).trans hHeld.1, (hb.cell (World.block_lt_of_cell? _ _ hHeld.2.1)).trans hHeld.2.1, (hb.cell (World.block_lt_of_cell? _ _ hHeld.2.2.1)).trans hHeld.2.2.1, (hb.cell (World.block_lt_of_cell? _ _ hHeld.2.2.2)).trans hHeld.2.2.2⟩)
          have HB2 := Lib.hid (HB1.out.trans (hb.mono HB1.out.size))
          clear hb hHeld
          go_wp2_with fail
          refine hK.out _ _ ?_ (fun hHeld => ?_)
          · exact S2.out
          clear hK K
          try simp only [Act.put, List.setIfInBounds_toArray, List.set_cons_zero, List.set_cons_succ]
          refine tk6 (v := .bool false) (by kernel_rfl) (by kernel_rfl) (by kernel_rfl) (fun _ _ _ h => h) (Or.inl ⟨by rfl, (by intro w hSw; (try dsimp only at hSw); go_simp; first | exact eq_cmp H2.out w | (have hh := H2.out; clear H1 H2 H3 H4 H5; revert hh; cases uf <;> simp <;> intros <;> first | omega | (simp_all; done) | (trace_state; omega)))⟩) hHeld ?_
          simp only [Act.put, List.setIfInBounds_toArray, List.set_cons_zero, List.set_cons_succ]
          refine tk7 (v := ?_) (by kernel_rfl) (by kernel_rfl) (by kernel_rfl) (fun _ _ _ h => h) (Or.inl ⟨by rfl, ?_⟩) hHeld ?_
          rotate_left
          · (intro w hSw; (try dsimp only at hSw); go_simp; try with_reducible rfl)
          simp only [Act.put, List.setIfInBounds_toArray, List.set_cons_zero, List.set_cons_succ]
          refine tk8 (v := ?_) (by kernel_rfl) (by kernel_rfl) (by kernel_rfl) (fun _ _ _ h => h) (Or.inl ⟨by rfl, ?_⟩) hHeld ?_
          rotate_left
          · (intro w hSw; (try dsimp only at hSw); go_simp; try with_reducible rfl)
          simp only [Act.put, List.setIfInBounds_toArray, List.set_cons_zero, List.set_cons_succ]
          refine tk9 (v := ?_) (by kernel_rfl) (by kernel_rfl) (by kernel_rfl) (fun _ _ _ h => h) (Or.inl ⟨by rfl, ?_⟩) hHeld ?_
          rotate_left
          · (intro w hSw; (try dsimp only at hSw); go_simp; try with_reducible rfl)
          simp only [Act.put, List.setIfInBounds_toArray, List.set_cons_zero, List.set_cons_succ]
          refine wpAnyH_ready (rs := [10]) (by kernel_rfl) (by simp) (st10 (fun K hK => ?_) AllReadyH.nil)
          go_simp
          refine (K3.out _).mono ?_
          rintro _ V3 ⟨rfl, hb⟩
          have S3 := Lib.hid (show V3.cell? ⟨w.heap.size, 0, none⟩ = some (.bool uf) ∧ V3.cell? ⟨w.heap.size, 1, none⟩ = some (.int .i64 um) ∧ V3.cell? ⟨w.heap.size, 2, none⟩ = some (.int .i64 ua) ∧ V3.cell? ⟨w.heap.size, 3, none⟩ = some (.int .i64 ud) from ⟨(hb.cell (World.block_lt_of_cell? _ _ hHeld.1)).trans hHeld.1, (hb.cell (World.block_lt_of_cell? _ _ hHeld.2.1)).trans hHeld.2.1, (hb.cell (World.block_lt_of_cell? _ _ hHeld.2.2.1)).trans hHeld.2.2.1, (hb.cell (World.block_lt_of_cell? _ _ hHeld.2.2.2)).trans hHeld.2.2.2⟩)
          have HB3 := Lib.hid (HB2.out.trans (hb.mono HB2.out.size))
          clear hb hHeld
          go_wp2_with fail
          refine hK.out _ _ ?_ (fun hHeld => ?_)
          · exact S3.out
          clear hK K
          try simp only [Act.put, List.setIfInBounds_toArray, List.set_cons_zero, List.set_cons_succ]
          refine tk11 (v := .bool false) (by kernel_rfl) (by kernel_rfl) (by kernel_rfl) (fun _ _ _ h => h) (Or.inl ⟨by rfl, (by intro w hSw; (try dsimp only at hSw); go_simp; first | exact eq_cmp H3.out w | (have hh := H3.out; clear H1 H2 H3 H4 H5; revert hh; cases uf <;> simp <;> intros <;> first | omega | (simp_all; done) | (trace_state; omega)))⟩) hHeld ?_
          simp only [Act.put, List.setIfInBounds_toArray, List.set_cons_zero, List.set_cons_succ]
          refine tk12 (v := ?_) (by kernel_rfl) (by kernel_rfl) (by kernel_rfl) (fun _ _ _ h => h) (Or.inl ⟨by rfl, ?_⟩) hHeld ?_
          rotate_left
          · (intro w hSw; (try dsimp only at hSw); go_simp; try with_reducible rfl)
          simp only [Act.put, List.setIfInBounds_toArray, List.set_cons_zero, List.set_cons_succ]
          refine tk13 (v := ?_) (by kernel_rfl) (by kernel_rfl) (by kernel_rfl) (fun _ _ _ h => h) (Or.inl ⟨by rfl, ?_⟩) hHeld ?_
          rotate_left
          · (intro w hSw; (try dsimp only at hSw); go_simp; try with_reducible rfl)
          simp only [Act.put, List.setIfInBounds_toArray, List.set_cons_zero, List.set_cons_succ]
          refine tk14 (v := ?_) (by kernel_rfl) (by kernel_rfl) (by kernel_rfl) (fun _ _ _ h => h) (Or.inl ⟨by rfl, ?_⟩) hHeld ?_
          rotate_left
          · (intro w hSw; (try dsimp only at hSw); go_simp; try with_reducible rfl)
          simp only [Act.put, List.setIfInBounds_toArray, List.set_cons_zero, List.set_cons_succ]
          refine wpAnyH_ready (rs := [15]) (by kernel_rfl) (by simp) (st15 (fun K hK => ?_) AllReadyH.nil)
          go_simp
          refine (K4.out _).mono ?_
          rintro _ V4 ⟨rfl, hb⟩
          have S4 := Lib.hid (show V4.cell? ⟨w.heap.size, 0, none⟩ = some (.bool uf) ∧ V4.cell? ⟨w.heap.size, 1, none⟩ = some (.int .i64 um) ∧ V4.cell? ⟨w.heap.size, 2, none⟩ = some (.int .i64 ua) ∧ V4.cell? ⟨w.heap.size, 3, none⟩ = some (.int .i64 ud) from ⟨(hb.cell (World.block_lt_of_cell? _ _ hHeld.1)).trans hHeld.1, (hb.cell (World.block_lt_of_cell? _ _ hHeld.2.1)).trans hHeld.2.1, (hb.cell (World.block_lt_of_cell? _ _ hHeld.2.2.1)).trans hHeld.2.2.1, (hb.cell (World.block_lt_of_cell? _ _ hHeld.2.2.2)).trans hHeld.2.2.2⟩)
          have HB4 := Lib.hid (HB3.out.trans (hb.mono HB3.out.size))
          clear hb hHeld
          go_wp2_with fail
          refine hK.out _ _ ?_ (fun hHeld => ?_)
          · exact S4.out
          clear hK K
          try simp only [Act.put, List.setIfInBounds_toArray, List.set_cons_zero, List.set_cons_succ]
          refine tk16 (v := .bool true) (by kernel_rfl) (by kernel_rfl) (by kernel_rfl) (fun _ _ _ h => h) (Or.inl ⟨by rfl, (by intro w hSw; (try dsimp only at hSw); go_simp; first | exact eq_cmp H4.out w | (have hh := H4.out; clear H1 H2 H3 H4 H5; revert hh; cases uf <;> simp <;> intros <;> first | omega | (simp_all; done) | (trace_state; omega)))⟩) hHeld ?_
          simp only [Act.put, List.setIfInBounds_toArray, List.set_cons_zero, List.set_cons_succ]
          refine tk17 (v := ?_) (by kernel_rfl) (by kernel_rfl) (by kernel_rfl) (fun _ _ _ h => h) (Or.inl ⟨by rfl, ?_⟩) hHeld ?_
          rotate_left
          · (intro w hSw; (try dsimp only at hSw); go_simp; try with_reducible rfl)
          simp only [Act.put, List.setIfInBounds_toArray, List.set_cons_zero, List.set_cons_succ]
          refine tk18 (v := ?_) (by kernel_rfl) (by kernel_rfl) (by kernel_rfl) (fun _ _ _ h => h) (Or.inl ⟨by rfl, ?_⟩) hHeld ?_
          rotate_left
          · (intro w hSw; (try dsimp only at hSw); go_simp; try with_reducible rfl)
          simp only [Act.put, List.setIfInBounds_toArray, List.set_cons_zero, List.set_cons_succ]
          refine tk19 (v := undef) (by kernel_rfl) (by kernel_rfl) (by kernel_rfl) (fun _ _ _ h => h) (Or.inr ⟨by rfl, rfl⟩) hHeld ?_
          simp only [Act.put, List.setIfInBounds_toArray, List.set_cons_zero, List.set_cons_succ]
          refine tk20 (v := undef) (by kernel_rfl) (by kernel_rfl) (by kernel_rfl) (fun _ _ _ h => h) (Or.inr ⟨by rfl, rfl⟩) hHeld ?_
          simp only [Act.put, List.setIfInBounds_toArray, List.set_cons_zero, List.set_cons_succ]
          refine tk21 (v := undef) (by kernel_rfl) (by kernel_rfl) (by kernel_rfl) (fun _ _ _ h => h) (Or.inr ⟨by rfl, rfl⟩) hHeld ?_
          simp only [Act.put, List.setIfInBounds_toArray, List.set_cons_zero, List.set_cons_succ]
          refine tk22 (v := ?_) (by kernel_rfl) (by kernel_rfl) (by kernel_rfl) (fun _ _ _ h => h) (Or.inl ⟨by rfl, ?_⟩) hHeld ?_
          rotate_left
          · (intro w hSw; (try dsimp only at hSw); go_simp; try with_reducible rfl)
          simp only [Act.put, List.setIfInBounds_toArray, List.set_cons_zero, List.set_cons_succ]
          refine tk23 (v := ?_) (by kernel_rfl) (by kernel_rfl) (by kernel_rfl) (fun _ _ _ h => h) (Or.inl ⟨by rfl, ?_⟩) hHeld ?_
          rotate_left
          · (intro w hSw; (try dsimp only at hSw); go_simp; try with_reducible rfl)
          simp only [Act.put, List.setIfInBounds_toArray, List.set_cons_zero, List.set_cons_succ]
          refine wpAnyH_done (by kernel_rfl) ?_ _
          go_wp2_with fail
          go_ret
          exact ⟨by simp, HB4.out⟩
        | false =>
          cases r5 with
          | true =>
            go_enter Try.func67, Try.ntmps67
            go_wp2_with fail
            clear hW1
            have hS : W1.drew.cell? ⟨w.heap.size, 0, none⟩ = some (.bool uf) ∧ W1.drew.cell? ⟨w.heap.size, 1, none⟩ = some (.int .i64 um) ∧ W1.drew.cell? ⟨w.heap.size, 2, none⟩ = some (.int .i64 ua) ∧ W1.drew.cell? ⟨w.heap.size, 3, none⟩ = some (.int .i64 ud) := ⟨c0, c1, c2, c3⟩
            refine wp_region_held (S := fun w' : World => w'.cell? ⟨w.heap.size, 0, none⟩ = some (.bool uf) ∧ w'.cell? ⟨w.heap.size, 1, none⟩ = some (.int .i64 um) ∧ w'.cell? ⟨w.heap.size, 2, none⟩ = some (.int .i64 ua) ∧ w'.cell? ⟨w.heap.size, 3, none⟩ = some (.int .i64 ud)) mixed ?_
            change wpAnyH _ _ _ _ _ _ _ _ W1.drew
            have HB0 := Lib.hid HB.out.drew
            clear c0 c1 c2 c3
            refine tk0 (v := ?_) (by kernel_rfl) (by kernel_rfl) (by kernel_rfl) (fun _ _ _ h => h) (Or.inl ⟨by rfl, ?_⟩) hS ?_
            rotate_left
            · (intro w hSw; (try dsimp only at hSw); go_simp; try with_reducible rfl)
            simp only [Act.put, List.setIfInBounds_toArray, List.set_cons_zero, List.set_cons_succ]
            refine wpAnyH_ready (rs := [1]) (by kernel_rfl) (by simp) (st1 (fun K hK => ?_) AllReadyH.nil)
            go_simp
            refine (K1.out _).mono ?_
            rintro _ V1 ⟨rfl, hb⟩
            have S1 := Lib.hid (show V1.cell? ⟨w.heap.size, 0, none⟩ = some (.bool uf) ∧ V1.cell? ⟨w.heap.size, 1, none⟩ = some (.int .i64 um) ∧ V1.cell? ⟨w.heap.size, 2, none⟩ = some (.int .i64 ua) ∧ V1.cell? ⟨w.heap.size, 3, none⟩ = some (.int .i64 ud) from ⟨(hb.cell (World.block_lt_of_cell? _ _ hS.1)).trans hS.1, (hb.cell (World.block_lt_of_cell? _ _ hS.2.1)).trans hS.2.1, (hb.cell (World.block_lt_of_cell? _ _ hS.2.2.1)).trans hS.2.2.1, (hb.cell (World.block_lt_of_cell? _ _ hS.2.2.2)).trans hS.2.2.2⟩)
            have HB1 := Lib.hid (HB0.out.trans (hb.mono HB0.out.size))
            clear hb hS
            go_wp2_with fail
            refine hK.out _ _ ?_ (fun hHeld => ?_)
            · exact S1.out
            clear hK K
            try simp only [Act.put, List.setIfInBounds_toArray, List.set_cons_zero, List.set_cons_succ]
            refine tk2 (v := .bool false) (by kernel_rfl) (by kernel_rfl) (by kernel_rfl) (fun _ _ _ h => h) (Or.inl ⟨by rfl, (by intro w hSw; (try dsimp only at hSw); go_simp; first | exact eq_cmpT H1.out w | (have hh := H1.out; clear H1 H2 H3 H4 H5; revert hh; cases uf <;> simp <;> intros <;> first | omega | (simp_all; done) | (trace_state; omega)))⟩) hHeld ?_
            simp only [Act.put, List.setIfInBounds_toArray, List.set_cons_zero, List.set_cons_succ]
            refine tk3 (v := ?_) (by kernel_rfl) (by kernel_rfl) (by kernel_rfl) (fun _ _ _ h => h) (Or.inl ⟨by rfl, ?_⟩) hHeld ?_
            rotate_left
            · (intro w hSw; (try dsimp only at hSw); go_simp; try with_reducible rfl)
            simp only [Act.put, List.setIfInBounds_toArray, List.set_cons_zero, List.set_cons_succ]
            refine tk4 (v := ?_) (by kernel_rfl) (by kernel_rfl) (by kernel_rfl) (fun _ _ _ h => h) (Or.inl ⟨by rfl, ?_⟩) hHeld ?_
            rotate_left
            · (intro w hSw; (try dsimp only at hSw); go_simp; try with_reducible rfl)
            simp only [Act.put, List.setIfInBounds_toArray, List.set_cons_zero, List.set_cons_succ]
            refine wpAnyH_ready (rs := [5]) (by kernel_rfl) (by simp) (st5 (fun K hK => ?_) AllReadyH.nil)
            go_simp
            refine (K2.out _).mono ?_
            rintro _ V2 ⟨rfl, hb⟩
            have S2 := Lib.hid (show V2.cell? ⟨w.heap.size, 0, none⟩ = some (.bool uf) ∧ V2.cell? ⟨w.heap.size, 1, none⟩ = some (.int .i64 um) ∧ V2.cell? ⟨w.heap.size, 2, none⟩ = some (.int .i64 ua) ∧ V2.cell? ⟨w.heap.size, 3, none⟩ = some (.int .i64 ud) from ⟨(hb.cell (World.block_lt_of_cell? _ _ hHeld.1)).trans hHeld.1, (hb.cell (World.block_lt_of_cell? _ _ hHeld.2.1)).trans hHeld.2.1, (hb.cell (World.block_lt_of_cell? _ _ hHeld.2.2.1)).trans hHeld.2.2.1, (hb.cell (World.block_lt_of_cell? _ _ hHeld.2.2.2)).trans hHeld.2.2.2⟩)
            have HB2 := Lib.hid (HB1.out.trans (hb.mono HB1.out.size))
            clear hb hHeld
            go_wp2_with fail
            refine hK.out _ _ ?_ (fun hHeld => ?_)
            · exact S2.out
            clear hK K
            try simp only [Act.put, List.setIfInBounds_toArray, List.set_cons_zero, List.set_cons_succ]
            refine tk6 (v := .bool false) (by kernel_rfl) (by kernel_rfl) (by kernel_rfl) (fun _ _ _ h => h) (Or.inl ⟨by rfl, (by intro w hSw; (try dsimp only at hSw); go_simp; first | exact eq_cmp H2.out w | (have hh := H2.out; clear H1 H2 H3 H4 H5; revert hh; cases uf <;> simp <;> intros <;> first | omega | (simp_all; done) | (trace_state; omega)))⟩) hHeld ?_
            simp only [Act.put, List.setIfInBounds_toArray, List.set_cons_zero, List.set_cons_succ]
            refine tk7 (v := ?_) (by kernel_rfl) (by kernel_rfl) (by kernel_rfl) (fun _ _ _ h => h) (Or.inl ⟨by rfl, ?_⟩) hHeld ?_
            rotate_left
            · (intro w hSw; (try dsimp only at hSw); go_simp; try with_reducible rfl)
            simp only [Act.put, List.setIfInBounds_toArray, List.set_cons_zero, List.set_cons_succ]
            refine tk8 (v := ?_) (by kernel_rfl) (by kernel_rfl) (by kernel_rfl) (fun _ _ _ h => h) (Or.inl ⟨by rfl, ?_⟩) hHeld ?_
            rotate_left
            · (intro w hSw; (try dsimp only at hSw); go_simp; try with_reducible rfl)
            simp only [Act.put, List.setIfInBounds_toArray, List.set_cons_zero, List.set_cons_succ]
            refine tk9 (v := ?_) (by kernel_rfl) (by kernel_rfl) (by kernel_rfl) (fun _ _ _ h => h) (Or.inl ⟨by rfl, ?_⟩) hHeld ?_
            rotate_left
            · (intro w hSw; (try dsimp only at hSw); go_simp; try with_reducible rfl)
            simp only [Act.put, List.setIfInBounds_toArray, List.set_cons_zero, List.set_cons_succ]
            refine wpAnyH_ready (rs := [10]) (by kernel_rfl) (by simp) (st10 (fun K hK => ?_) AllReadyH.nil)
            go_simp
            refine (K3.out _).mono ?_
            rintro _ V3 ⟨rfl, hb⟩
            have S3 := Lib.hid (show V3.cell? ⟨w.heap.size, 0, none⟩ = some (.bool uf) ∧ V3.cell? ⟨w.heap.size, 1, none⟩ = some (.int .i64 um) ∧ V3.cell? ⟨w.heap.size, 2, none⟩ = some (.int .i64 ua) ∧ V3.cell? ⟨w.heap.size, 3, none⟩ = some (.int .i64 ud) from ⟨(hb.cell (World.block_lt_of_cell? _ _ hHeld.1)).trans hHeld.1, (hb.cell (World.block_lt_of_cell? _ _ hHeld.2.1)).trans hHeld.2.1, (hb.cell (World.block_lt_of_cell? _ _ hHeld.2.2.1)).trans hHeld.2.2.1, (hb.cell (World.block_lt_of_cell? _ _ hHeld.2.2.2)).trans hHeld.2.2.2⟩)
            have HB3 := Lib.hid (HB2.out.trans (hb.mono HB2.out.size))
            clear hb hHeld
            go_wp2_with fail
            refine hK.out _ _ ?_ (fun hHeld => ?_)
            · exact S3.out
            clear hK K
            try simp only [Act.put, List.setIfInBounds_toArray, List.set_cons_zero, List.set_cons_succ]
            refine tk11 (v := .bool false) (by kernel_rfl) (by kernel_rfl) (by kernel_rfl) (fun _ _ _ h => h) (Or.inl ⟨by rfl, (by intro w hSw; (try dsimp only at hSw); go_simp; first | exact eq_cmp H3.out w | (have hh := H3.out; clear H1 H2 H3 H4 H5; revert hh; cases uf <;> simp <;> intros <;> first | omega | (simp_all; done) | (trace_state; omega)))⟩) hHeld ?_
            simp only [Act.put, List.setIfInBounds_toArray, List.set_cons_zero, List.set_cons_succ]
            refine tk12 (v := ?_) (by kernel_rfl) (by kernel_rfl) (by kernel_rfl) (fun _ _ _ h => h) (Or.inl ⟨by rfl, ?_⟩) hHeld ?_
            rotate_left
            · (intro w hSw; (try dsimp only at hSw); go_simp; try with_reducible rfl)
            simp only [Act.put, List.setIfInBounds_toArray, List.set_cons_zero, List.set_cons_succ]
            refine tk13 (v := ?_) (by kernel_rfl) (by kernel_rfl) (by kernel_rfl) (fun _ _ _ h => h) (Or.inl ⟨by rfl, ?_⟩) hHeld ?_
            rotate_left
            · (intro w hSw; (try dsimp only at hSw); go_simp; try with_reducible rfl)
            simp only [Act.put, List.setIfInBounds_toArray, List.set_cons_zero, List.set_cons_succ]
            refine tk14 (v := ?_) (by kernel_rfl) (by kernel_rfl) (by kernel_rfl) (fun _ _ _ h => h) (Or.inl ⟨by rfl, ?_⟩) hHeld ?_
            rotate_left
            · (intro w hSw; (try dsimp only at hSw); go_simp; try with_reducible rfl)
            simp only [Act.put, List.setIfInBounds_toArray, List.set_cons_zero, List.set_cons_succ]
            refine wpAnyH_ready (rs := [15]) (by kernel_rfl) (by simp) (st15 (fun K hK => ?_) AllReadyH.nil)
            go_simp
            refine (K4.out _).mono ?_
            rintro _ V4 ⟨rfl, hb⟩
            have S4 := Lib.hid (show V4.cell? ⟨w.heap.size, 0, none⟩ = some (.bool uf) ∧ V4.cell? ⟨w.heap.size, 1, none⟩ = some (.int .i64 um) ∧ V4.cell? ⟨w.heap.size, 2, none⟩ = some (.int .i64 ua) ∧ V4.cell? ⟨w.heap.size, 3, none⟩ = some (.int .i64 ud) from ⟨(hb.cell (World.block_lt_of_cell? _ _ hHeld.1)).trans hHeld.1, (hb.cell (World.block_lt_of_cell? _ _ hHeld.2.1)).trans hHeld.2.1, (hb.cell (World.block_lt_of_cell? _ _ hHeld.2.2.1)).trans hHeld.2.2.1, (hb.cell (World.block_lt_of_cell? _ _ hHeld.2.2.2)).trans hHeld.2.2.2⟩)
            have HB4 := Lib.hid (HB3.out.trans (hb.mono HB3.out.size))
            clear hb hHeld
            go_wp2_with fail
            refine hK.out _ _ ?_ (fun hHeld => ?_)
            · exact S4.out
            clear hK K
            try simp only [Act.put, List.setIfInBounds_toArray, List.set_cons_zero, List.set_cons_succ]
            refine tk16 (v := .bool false) (by kernel_rfl) (by kernel_rfl) (by kernel_rfl) (fun _ _ _ h => h) (Or.inl ⟨by rfl, (by intro w hSw; (try dsimp only at hSw); go_simp; first | exact eq_cmp H4.out w | (have hh := H4.out; clear H1 H2 H3 H4 H5; revert hh; cases uf <;> simp <;> intros <;> first | omega | (simp_all; done) | (trace_state; omega)))⟩) hHeld ?_
            simp only [Act.put, List.setIfInBounds_toArray, List.set_cons_zero, List.set_cons_succ]
            refine tk17 (v := ?_) (by kernel_rfl) (by kernel_rfl) (by kernel_rfl) (fun _ _ _ h => h) (Or.inl ⟨by rfl, ?_⟩) hHeld ?_
            rotate_left
            · (intro w hSw; (try dsimp only at hSw); go_simp; try with_reducible rfl)
            simp only [Act.put, List.setIfInBounds_toArray, List.set_cons_zero, List.set_cons_succ]
            refine tk18 (v := ?_) (by kernel_rfl) (by kernel_rfl) (by kernel_rfl) (fun _ _ _ h => h) (Or.inl ⟨by rfl, ?_⟩) hHeld ?_
            rotate_left
            · (intro w hSw; (try dsimp only at hSw); go_simp; try with_reducible rfl)
            simp only [Act.put, List.setIfInBounds_toArray, List.set_cons_zero, List.set_cons_succ]
            refine tk19 (v := ?_) (by kernel_rfl) (by kernel_rfl) (by kernel_rfl) (fun _ _ _ h => h) (Or.inl ⟨by rfl, ?_⟩) hHeld ?_
            rotate_left
            · (intro w hSw; (try dsimp only at hSw); go_simp; try with_reducible rfl)
            simp only [Act.put, List.setIfInBounds_toArray, List.set_cons_zero, List.set_cons_succ]
            refine tk20 (v := ?_) (by kernel_rfl) (by kernel_rfl) (by kernel_rfl) (fun _ _ _ h => h) (Or.inl ⟨by rfl, ?_⟩) hHeld ?_
            rotate_left
            · (intro w hSw; (try dsimp only at hSw); go_simp; try with_reducible rfl)
            simp only [Act.put, List.setIfInBounds_toArray, List.set_cons_zero, List.set_cons_succ]
            refine tk21 (v := .bool true) (by kernel_rfl) (by kernel_rfl) (by kernel_rfl) (fun _ _ _ h => h) (Or.inl ⟨by rfl, (by intro w hSw; (try dsimp only at hSw); go_simp; first | exact eq_cmp H5.out w | (have hh := H5.out; clear H1 H2 H3 H4 H5; revert hh; cases uf <;> simp <;> intros <;> first | omega | (simp_all; done) | (trace_state; omega)))⟩) hHeld ?_
            simp only [Act.put, List.setIfInBounds_toArray, List.set_cons_zero, List.set_cons_succ]
            refine tk22 (v := ?_) (by kernel_rfl) (by kernel_rfl) (by kernel_rfl) (fun _ _ _ h => h) (Or.inl ⟨by rfl, ?_⟩) hHeld ?_
            rotate_left
            · (intro w hSw; (try dsimp only at hSw); go_simp; try with_reducible rfl)
            simp only [Act.put, List.setIfInBounds_toArray, List.set_cons_zero, List.set_cons_succ]
            refine tk23 (v := ?_) (by kernel_rfl) (by kernel_rfl) (by kernel_rfl) (fun _ _ _ h => h) (Or.inl ⟨by rfl, ?_⟩) hHeld ?_
            rotate_left
            · (intro w hSw; (try dsimp only at hSw); go_simp; try with_reducible rfl)
            simp only [Act.put, List.setIfInBounds_toArray, List.set_cons_zero, List.set_cons_succ]
            refine wpAnyH_done (by kernel_rfl) ?_ _
            go_wp2_with fail
            go_ret
            exact ⟨by simp, HB4.out⟩
          | false =>
            go_enter Try.func67, Try.ntmps67
            go_wp2_with fail
            clear hW1
            have hS : W1.drew.cell? ⟨w.heap.size, 0, none⟩ = some (.bool uf) ∧ W1.drew.cell? ⟨w.heap.size, 1, none⟩ = some (.int .i64 um) ∧ W1.drew.cell? ⟨w.heap.size, 2, none⟩ = some (.int .i64 ua) ∧ W1.drew.cell? ⟨w.heap.size, 3, none⟩ = some (.int .i64 ud) := ⟨c0, c1, c2, c3⟩
            refine wp_region_held (S := fun w' : World => w'.cell? ⟨w.heap.size, 0, none⟩ = some (.bool uf) ∧ w'.cell? ⟨w.heap.size, 1, none⟩ = some (.int .i64 um) ∧ w'.cell? ⟨w.heap.size, 2, none⟩ = some (.int .i64 ua) ∧ w'.cell? ⟨w.heap.size, 3, none⟩ = some (.int .i64 ud)) mixed ?_
            change wpAnyH _ _ _ _ _ _ _ _ W1.drew
            have HB0 := Lib.hid HB.out.drew
            clear c0 c1 c2 c3
            refine tk0 (v := ?_) (by kernel_rfl) (by kernel_rfl) (by kernel_rfl) (fun _ _ _ h => h) (Or.inl ⟨by rfl, ?_⟩) hS ?_
            rotate_left
            · (intro w hSw; (try dsimp only at hSw); go_simp; try with_reducible rfl)
            simp only [Act.put, List.setIfInBounds_toArray, List.set_cons_zero, List.set_cons_succ]
            refine wpAnyH_ready (rs := [1]) (by kernel_rfl) (by simp) (st1 (fun K hK => ?_) AllReadyH.nil)
            go_simp
            refine (K1.out _).mono ?_
            rintro _ V1 ⟨rfl, hb⟩
            have S1 := Lib.hid (show V1.cell? ⟨w.heap.size, 0, none⟩ = some (.bool uf) ∧ V1.cell? ⟨w.heap.size, 1, none⟩ = some (.int .i64 um) ∧ V1.cell? ⟨w.heap.size, 2, none⟩ = some (.int .i64 ua) ∧ V1.cell? ⟨w.heap.size, 3, none⟩ = some (.int .i64 ud) from ⟨(hb.cell (World.block_lt_of_cell? _ _ hS.1)).trans hS.1, (hb.cell (World.block_lt_of_cell? _ _ hS.2.1)).trans hS.2.1, (hb.cell (World.block_lt_of_cell? _ _ hS.2.2.1)).trans hS.2.2.1, (hb.cell (World.block_lt_of_cell? _ _ hS.2.2.2)).trans hS.2.2.2⟩)
            have HB1 := Lib.hid (HB0.out.trans (hb.mono HB0.out.size))
            clear hb hS
            go_wp2_with fail
            refine hK.out _ _ ?_ (fun hHeld => ?_)
            · exact S1.out
            clear hK K
            try simp only [Act.put, List.setIfInBounds_toArray, List.set_cons_zero, List.set_cons_succ]
            refine tk2 (v := .bool false) (by kernel_rfl) (by kernel_rfl) (by kernel_rfl) (fun _ _ _ h => h) (Or.inl ⟨by rfl, (by intro w hSw; (try dsimp only at hSw); go_simp; first | exact eq_cmpT H1.out w | (have hh := H1.out; clear H1 H2 H3 H4 H5; revert hh; cases uf <;> simp <;> intros <;> first | omega | (simp_all; done) | (trace_state; omega)))⟩) hHeld ?_
            simp only [Act.put, List.setIfInBounds_toArray, List.set_cons_zero, List.set_cons_succ]
            refine tk3 (v := ?_) (by kernel_rfl) (by kernel_rfl) (by kernel_rfl) (fun _ _ _ h => h) (Or.inl ⟨by rfl, ?_⟩) hHeld ?_
            rotate_left
            · (intro w hSw; (try dsimp only at hSw); go_simp; try with_reducible rfl)
            simp only [Act.put, List.setIfInBounds_toArray, List.set_cons_zero, List.set_cons_succ]
            refine tk4 (v := ?_) (by kernel_rfl) (by kernel_rfl) (by kernel_rfl) (fun _ _ _ h => h) (Or.inl ⟨by rfl, ?_⟩) hHeld ?_
            rotate_left
            · (intro w hSw; (try dsimp only at hSw); go_simp; try with_reducible rfl)
            simp only [Act.put, List.setIfInBounds_toArray, List.set_cons_zero, List.set_cons_succ]
            refine wpAnyH_ready (rs := [5]) (by kernel_rfl) (by simp) (st5 (fun K hK => ?_) AllReadyH.nil)
            go_simp
            refine (K2.out _).mono ?_
            rintro _ V2 ⟨rfl, hb⟩
            have S2 := Lib.hid (show V2.cell? ⟨w.heap.size, 0, none⟩ = some (.bool uf) ∧ V2.cell? ⟨w.heap.size, 1, none⟩ = some (.int .i64 um) ∧ V2.cell? ⟨w.heap.size, 2, none⟩ = some (.int .i64 ua) ∧ V2.cell? ⟨w.heap.size, 3, none⟩ = some (.int .i64 ud) from ⟨(hb.cell (World.block_lt_of_cell? _ _ hHeld.1)).trans hHeld.1, (hb.cell (World.block_lt_of_cell? _ _ hHeld.2.1)).trans hHeld.2.1, (hb.cell (World.block_lt_of_cell? _ _ hHeld.2.2.1)).trans hHeld.2.2.1, (hb.cell (World.block_lt_of_cell? _ _ hHeld.2.2.2)).trans hHeld.2.2.2⟩)
            have HB2 := Lib.hid (HB1.out.trans (hb.mono HB1.out.size))
            clear hb hHeld
            go_wp2_with fail
            refine hK.out _ _ ?_ (fun hHeld => ?_)
            · exact S2.out
            clear hK K
            try simp only [Act.put, List.setIfInBounds_toArray, List.set_cons_zero, List.set_cons_succ]
            refine tk6 (v := .bool false) (by kernel_rfl) (by kernel_rfl) (by kernel_rfl) (fun _ _ _ h => h) (Or.inl ⟨by rfl, (by intro w hSw; (try dsimp only at hSw); go_simp; first | exact eq_cmp H2.out w | (have hh := H2.out; clear H1 H2 H3 H4 H5; revert hh; cases uf <;> simp <;> intros <;> first | omega | (simp_all; done) | (trace_state; omega)))⟩) hHeld ?_
            simp only [Act.put, List.setIfInBounds_toArray, List.set_cons_zero, List.set_cons_succ]
            refine tk7 (v := ?_) (by kernel_rfl) (by kernel_rfl) (by kernel_rfl) (fun _ _ _ h => h) (Or.inl ⟨by rfl, ?_⟩) hHeld ?_
            rotate_left
            · (intro w hSw; (try dsimp only at hSw); go_simp; try with_reducible rfl)
            simp only [Act.put, List.setIfInBounds_toArray, List.set_cons_zero, List.set_cons_succ]
            refine tk8 (v := ?_) (by kernel_rfl) (by kernel_rfl) (by kernel_rfl) (fun _ _ _ h => h) (Or.inl ⟨by rfl, ?_⟩) hHeld ?_
            rotate_left
            · (intro w hSw; (try dsimp only at hSw); go_simp; try with_reducible rfl)
            simp only [Act.put, List.setIfInBounds_toArray, List.set_cons_zero, List.set_cons_succ]
            refine tk9 (v := ?_) (by kernel_rfl) (by kernel_rfl) (by kernel_rfl) (fun _ _ _ h => h) (Or.inl ⟨by rfl, ?_⟩) hHeld ?_
            rotate_left
            · (intro w hSw; (try dsimp only at hSw); go_simp; try with_reducible rfl)
            simp only [Act.put, List.setIfInBounds_toArray, List.set_cons_zero, List.set_cons_succ]
            refine wpAnyH_ready (rs := [10]) (by kernel_rfl) (by simp) (st10 (fun K hK => ?_) AllReadyH.nil)
            go_simp
            refine (K3.out _).mono ?_
            rintro _ V3 ⟨rfl, hb⟩
            have S3 := Lib.hid (show V3.cell? ⟨w.heap.size, 0, none⟩ = some (.bool uf) ∧ V3.cell? ⟨w.heap.size, 1, none⟩ = some (.int .i64 um) ∧ V3.cell? ⟨w.heap.size, 2, none⟩ = some (.int .i64 ua) ∧ V3.cell? ⟨w.heap.size, 3, none⟩ = some (.int .i64 ud) from ⟨(hb.cell (World.block_lt_of_cell? _ _ hHeld.1)).trans hHeld.1, (hb.cell (World.block_lt_of_cell? _ _ hHeld.2.1)).trans hHeld.2.1, (hb.cell (World.block_lt_of_cell? _ _ hHeld.2.2.1)).trans hHeld.2.2.1, (hb.cell (World.block_lt_of_cell? _ _ hHeld.2.2.2)).trans hHeld.2.2.2⟩)
            have HB3 := Lib.hid (HB2.out.trans (hb.mono HB2.out.size))
            clear hb hHeld
            go_wp2_with fail
            refine hK.out _ _ ?_ (fun hHeld => ?_)
            · exact S3.out
            clear hK K
            try simp only [Act.put, List.setIfInBounds_toArray, List.set_cons_zero, List.set_cons_succ]
            refine tk11 (v := .bool false) (by kernel_rfl) (by kernel_rfl) (by kernel_rfl) (fun _ _ _ h => h) (Or.inl ⟨by rfl, (by intro w hSw; (try dsimp only at hSw); go_simp; first | exact eq_cmp H3.out w | (have hh := H3.out; clear H1 H2 H3 H4 H5; revert hh; cases uf <;> simp <;> intros <;> first | omega | (simp_all; done) | (trace_state; omega)))⟩) hHeld ?_
            simp only [Act.put, List.setIfInBounds_toArray, List.set_cons_zero, List.set_cons_succ]
            refine tk12 (v := ?_) (by kernel_rfl) (by kernel_rfl) (by kernel_rfl) (fun _ _ _ h => h) (Or.inl ⟨by rfl, ?_⟩) hHeld ?_
            rotate_left
            · (intro w hSw; (try dsimp only at hSw); go_simp; try with_reducible rfl)
            simp only [Act.put, List.setIfInBounds_toArray, List.set_cons_zero, List.set_cons_succ]
            refine tk13 (v := ?_) (by kernel_rfl) (by kernel_rfl) (by kernel_rfl) (fun _ _ _ h => h) (Or.inl ⟨by rfl, ?_⟩) hHeld ?_
            rotate_left
            · (intro w hSw; (try dsimp only at hSw); go_simp; try with_reducible rfl)
            simp only [Act.put, List.setIfInBounds_toArray, List.set_cons_zero, List.set_cons_succ]
            refine tk14 (v := ?_) (by kernel_rfl) (by kernel_rfl) (by kernel_rfl) (fun _ _ _ h => h) (Or.inl ⟨by rfl, ?_⟩) hHeld ?_
            rotate_left
            · (intro w hSw; (try dsimp only at hSw); go_simp; try with_reducible rfl)
            simp only [Act.put, List.setIfInBounds_toArray, List.set_cons_zero, List.set_cons_succ]
            refine wpAnyH_ready (rs := [15]) (by kernel_rfl) (by simp) (st15 (fun K hK => ?_) AllReadyH.nil)
            go_simp
            refine (K4.out _).mono ?_
            rintro _ V4 ⟨rfl, hb⟩
            have S4 := Lib.hid (show V4.cell? ⟨w.heap.size, 0, none⟩ = some (.bool uf) ∧ V4.cell? ⟨w.heap.size, 1, none⟩ = some (.int .i64 um) ∧ V4.cell? ⟨w.heap.size, 2, none⟩ = some (.int .i64 ua) ∧ V4.cell? ⟨w.heap.size, 3, none⟩ = some (.int .i64 ud) from ⟨(hb.cell (World.block_lt_of_cell? _ _ hHeld.1)).trans hHeld.1, (hb.cell (World.block_lt_of_cell? _ _ hHeld.2.1)).trans hHeld.2.1, (hb.cell (World.block_lt_of_cell? _ _ hHeld.2.2.1)).trans hHeld.2.2.1, (hb.cell (World.block_lt_of_cell? _ _ hHeld.2.2.2)).trans hHeld.2.2.2⟩)
            have HB4 := Lib.hid (HB3.out.trans (hb.mono HB3.out.size))
            clear hb hHeld
            go_wp2_with fail
            refine hK.out _ _ ?_ (fun hHeld => ?_)
            · exact S4.out
            clear hK K
            try simp only [Act.put, List.setIfInBounds_toArray, List.set_cons_zero, List.set_cons_succ]
            refine tk16 (v := .bool false) (by kernel_rfl) (by kernel_rfl) (by kernel_rfl) (fun _ _ _ h => h) (Or.inl ⟨by rfl, (by intro w hSw; (try dsimp only at hSw); go_simp; first | exact eq_cmp H4.out w | (have hh := H4.out; clear H1 H2 H3 H4 H5; revert hh; cases uf <;> simp <;> intros <;> first | omega | (simp_all; done) | (trace_state; omega)))⟩) hHeld ?_
            simp only [Act.put, List.setIfInBounds_toArray, List.set_cons_zero, List.set_cons_succ]
            refine tk17 (v := ?_) (by kernel_rfl) (by kernel_rfl) (by kernel_rfl) (fun _ _ _ h => h) (Or.inl ⟨by rfl, ?_⟩) hHeld ?_
            rotate_left
            · (intro w hSw; (try dsimp only at hSw); go_simp; try with_reducible rfl)
            simp only [Act.put, List.setIfInBounds_toArray, List.set_cons_zero, List.set_cons_succ]
            refine tk18 (v := ?_) (by kernel_rfl) (by kernel_rfl) (by kernel_rfl) (fun _ _ _ h => h) (Or.inl ⟨by rfl, ?_⟩) hHeld ?_
            rotate_left
            · (intro w hSw; (try dsimp only at hSw); go_simp; try with_reducible rfl)
            simp only [Act.put, List.setIfInBounds_toArray, List.set_cons_zero, List.set_cons_succ]
            refine tk19 (v := ?_) (by kernel_rfl) (by kernel_rfl) (by kernel_rfl) (fun _ _ _ h => h) (Or.inl ⟨by rfl, ?_⟩) hHeld ?_
            rotate_left
            · (intro w hSw; (try dsimp only at hSw); go_simp; try with_reducible rfl)
            simp only [Act.put, List.setIfInBounds_toArray, List.set_cons_zero, List.set_cons_succ]
            refine tk20 (v := ?_) (by kernel_rfl) (by kernel_rfl) (by kernel_rfl) (fun _ _ _ h => h) (Or.inl ⟨by rfl, ?_⟩) hHeld ?_
            rotate_left
            · (intro w hSw; (try dsimp only at hSw); go_simp; try with_reducible rfl)
            simp only [Act.put, List.setIfInBounds_toArray, List.set_cons_zero, List.set_cons_succ]
            refine tk21 (v := .bool false) (by kernel_rfl) (by kernel_rfl) (by kernel_rfl) (fun _ _ _ h => h) (Or.inl ⟨by rfl, (by intro w hSw; (try dsimp only at hSw); go_simp; first | exact eq_cmp H5.out w | (have hh := H5.out; clear H1 H2 H3 H4 H5; revert hh; cases uf <;> simp <;> intros <;> first | omega | (simp_all; done) | (trace_state; omega)))⟩) hHeld ?_
            simp only [Act.put, List.setIfInBounds_toArray, List.set_cons_zero, List.set_cons_succ]
            refine tk22 (v := ?_) (by kernel_rfl) (by kernel_rfl) (by kernel_rfl) (fun _ _ _ h => h) (Or.inl ⟨by rfl, ?_⟩) hHeld ?_
            rotate_left
            · (intro w hSw; (try dsimp only at hSw); go_simp; try with_reducible rfl)
            simp only [Act.put, List.setIfInBounds_toArray, List.set_cons_zero, List.set_cons_succ]
            refine tk23 (v := ?_) (by kernel_rfl) (by kernel_rfl) (by kernel_rfl) (fun _ _ _ h => h) (Or.inl ⟨by rfl, ?_⟩) hHeld ?_
            rotate_left
            · (intro w hSw; (try dsimp only at hSw); go_simp; try with_reducible rfl)
            simp only [Act.put, List.setIfInBounds_toArray, List.set_cons_zero, List.set_cons_succ]
            refine wpAnyH_done (by kernel_rfl) ?_ _
            go_wp2_with fail
            go_ret
            exact ⟨by simp, HB4.out⟩
end Go.Proofs.Ytjifiijgghpniaa
/-
  Contract of the reference of units: formed.
-/
namespace Go.Proofs.Ytjifiijgghpniaa
open Go.RowKit Un

set_option maxRecDepth 100000 in
set_option maxHeartbeats 8000000 in
theorem rformed_any (L : List Dc) (p : Option Addr) (b off c : Nat) (w : World) (hS : SlR w p b off L.length 8 (L.map dC)) :
    Calls Try.prog 47 #[.slice p L.length c] w fun e w' => e = .returned (.bool (formD L)) ∧ RowKit.Below w.heap.size w w' := by
  have HB := Lib.hid (Below.refl w.heap.size w)
  have KN := Lib.hid rName_any
  have KB := Lib.hid rbasic_any
  have HS := Lib.hid hS
  have hmax := hS.max
  obtain ⟨R, hR⟩ : ∃ R, R = formD L := ⟨_, rfl⟩
  rw [← hR]
  have HR := Lib.hid hR
  clear hR hS
  by_cases hl : 12 < L.length
  · have hz : (12 : Int) < (L.length : Int) := by omega
    have HRF : Hid (R = false) := by show _ = _; rw [HR.out, formD, decide_eq_false (by omega)]; rfl
    go_enter Try.func47, Try.ntmps47
    go_wp2_with fail
    go_ret
    exact ⟨ret_bool HRF.out.symm, HB.out⟩
  · have hz : ¬ (12 : Int) < (L.length : Int) := by omega
    have HRF : Hid (R = L.all fun d => isName d.nm && basic d.u) := by show _ = _; rw [HR.out, formD, decide_eq_true (by omega), Bool.true_and]
    clear HR
    go_enter Try.func47, Try.ntmps47
    go_wp2_with fail
    clear hz
    go_loopg [3] L.length (fun g v3 wr => ∃ i : Nat, i ≤ L.length ∧ L.length - i ≤ g ∧ v3 = .int .i64 i ∧ Hid (R = (L.drop i).all fun d => isName d.nm && basic d.u) ∧ Hid (RowKit.Below w.heap.size w wr))
    case atStart => exact ⟨0, Nat.zero_le _, by omega, by simp, HRF, HB⟩
    case round =>
      obtain ⟨i, hi, hg, rfl, HM, HW⟩ := hrel
      have hws := HW.out.size
      by_cases hlt : i < L.length
      · have hz : (i : Int) < (L.length : Int) := by omega
        have hq := HS.out.ptr (by omega)
        subst hq
        have hr := (HS.out.bel HW.out).at_ i (dC L[i]) (by rw [List.getElem?_map, List.getElem?_eq_getElem hlt]; rfl)
        have E3 : Hid (R = ((isName L[i].nm && basic L[i].u) && (L.drop (i + 1)).all fun d => isName d.nm && basic d.u)) := by
          show _ = _
          rw [HM.out, List.drop_eq_getElem_cons hlt]
          rfl
        clear HM
        generalize L[i] = d at *
        obtain ⟨nm, ⟨uf, um, ua, ud⟩, lo, hi', pl⟩ := d
        simp only [dC] at hr
        have hc := hr.2
        have z0 := hc 0 _ rfl
        have z1 := hc 1 _ rfl
        have z2 := hc 2 _ rfl
        have z3 := hc 3 _ rfl
        have z4 := hc 4 _ rfl
        rw [Nat.add_zero] at z0
        have e2 : IntKind.i64.wrap ((i : Int) + 1) = ((i + 1 : Nat) : Int) := by rw [IntWalk.i64_in _ (by omega)]; rfl
        have K1 := Lib.hid (KN.out nm)
        have K2 := Lib.hid (KB.out ⟨uf, um, ua, ud⟩)
        simp only at E3 K2
        clear hc hr
        generalize bs nm = s at *
        generalize isName nm = a at *
        generalize basic ⟨uf, um, ua, ud⟩ = bb at *
        go_wp2_with fail
        refine (K1.out _).mono ?_
        rintro _ v ⟨rfl, hb⟩
        have HW2 := Lib.hid (HW.out.trans (hb.mono HW.out.size))
        replace z1 := (hb.cell (World.block_lt_of_cell? _ _ z1)).trans z1
        replace z2 := (hb.cell (World.block_lt_of_cell? _ _ z2)).trans z2
        replace z3 := (hb.cell (World.block_lt_of_cell? _ _ z3)).trans z3
        replace z4 := (hb.cell (World.block_lt_of_cell? _ _ z4)).trans z4
        clear hb z0
        go_wp2_with fail
        refine (K2.out _).mono ?_
        rintro _ v2 ⟨rfl, hb⟩
        have HW3 := Lib.hid (HW2.out.trans (hb.mono HW2.out.size))
        clear hb z1 z2 z3 z4
        cases a with
        | false =>
          go_wp2_with fail
          go_ret
          exact ⟨ret_bool (by rw [E3.out]; simp), HW3.out⟩
        | true =>
          cases bb with
          | false =>
            go_wp2_with fail
            go_ret
            exact ⟨ret_bool (by rw [E3.out]; simp), HW3.out⟩
          | true =>
            go_wp2_with fail
            all_goals
              go_roundg (L.length - (i + 1))
              case measure => omega
              case rel => exact ⟨i + 1, by omega, Nat.le_refl _, by simp, by show _ = _; rw [E3.out]; simp, HW3⟩
      · have hz : ¬ (i : Int) < (L.length : Int) := by omega
        have hie : i = L.length := by omega
        subst hie
        go_wp2_with fail
        go_ret
        exact ⟨ret_bool (by rw [HM.out, List.drop_length]; rfl), HW.out⟩
end Go.Proofs.Ytjifiijgghpniaa
/-
  Contracts of the reference of units: decl, Decls.
-/
namespace Go.Proofs.Ytjifiijgghpniaa
open Go.RowKit Un

/-- A declaration is right, with the earlier ones. -/
def okD (L : List Dc) (i : Nat) : Prop := ∀ h : i < L.length, (∀ k (hk : k < i), (L[k]'(by omega)).nm ≠ L[i].nm) ∧ ∀ k (hk : k ≤ i), bounded (L[k]'(by omega)) = true ∧ prodC (L.take (k + 1)) ≤ 4096
theorem errsD_nil : ∀ (l pre : List Dc), errsD pre l = [] ↔ ∀ i (h : i < l.length), errD (pre ++ l.take i) (prodC (pre ++ l.take i)) l[i] = 0
  | [], pre => by simp [errsD]
  | d :: l, pre => by
    simp only [errsD, List.append_eq_nil_iff, errsD_nil l (pre ++ [d])]
    constructor
    · rintro ⟨h1, h2⟩ i hi
      cases i with
      | zero =>
        simp only [List.take_zero, List.append_nil, List.getElem_cons_zero]
        split at h1
        · assumption
        · cases h1
      | succ i =>
        have := h2 i (by simpa using hi)
        simpa [List.append_assoc] using this
    · intro h
      refine ⟨?_, fun i hi => ?_⟩
      · have := h 0 (by simp)
        simp only [List.take_zero, List.append_nil, List.getElem_cons_zero] at this
        rw [if_pos this]
      · have := h (i + 1) (by simpa using hi)
        simpa [List.append_assoc] using this
theorem errD_zero (pre : List Dc) (c : Int) (d : Dc) : errD pre c d = 0 ↔ (∀ e ∈ pre, e.nm ≠ d.nm) ∧ bounded d = true ∧ cases1 c d ≤ 4096 := by
  unfold errD
  constructor
  · intro h
    split at h
    · cases h
    · rename_i h1
      split at h
      · cases h
      · rename_i h2
        split at h
        · cases h
        · rename_i h3
          refine ⟨fun e he hn => h1 (List.any_eq_true.2 ⟨e, he, by simpa using hn⟩), by simpa using h2, by omega⟩
  · rintro ⟨h1, h2, h3⟩
    rw [if_neg, if_neg (by simpa using h2), if_neg (by omega)]
    intro h
    obtain ⟨e, he, hn⟩ := List.any_eq_true.1 h
    exact h1 e he (by simpa using hn)
theorem okD_all (L : List Dc) : errsD [] L = [] ↔ ∀ i, i < L.length → okD L i := by
  rw [errsD_nil]
  simp only [List.nil_append]
  constructor
  · intro h i _ hi
    refine ⟨fun k hk e => ?_, fun k hk => ?_⟩
    · have := ((errD_zero _ _ _).1 (h i hi)).1 (L[k]'(by omega)) (by
        rw [List.mem_take_iff_getElem]
        exact ⟨k, by omega, rfl⟩)
      exact this e
    · have := (errD_zero _ _ _).1 (h k (by omega))
      refine ⟨this.2.1, ?_⟩
      rw [List.take_succ_eq_append_getElem (by omega), prodC_snoc]
      exact this.2.2
  · intro h i hi
    have h1 := h i hi hi
    refine (errD_zero _ _ _).2 ⟨fun e he => ?_, (h1.2 i (Nat.le_refl _)).1, ?_⟩
    · rw [List.mem_take_iff_getElem] at he
      obtain ⟨k, hk, rfl⟩ := he
      exact h1.1 k (by omega)
    · have := (h1.2 i (Nat.le_refl _)).2
      rwa [List.take_succ_eq_append_getElem hi, prodC_snoc] at this
theorem okD_of {L : List Dc} {i : Nat} (hi : i < L.length) (h1 : ∀ k d, k < i → L[k]? = some d → d.nm ≠ L[i].nm) (h2 : ∀ k d, k < i + 1 → L[k]? = some d → bounded d = true ∧ prodC (L.take (k + 1)) ≤ 4096) : okD L i := fun _ =>
  ⟨fun k hk => h1 k _ hk (List.getElem?_eq_getElem (by omega)), fun k hk => h2 k _ (by omega) (List.getElem?_eq_getElem (by omega))⟩
set_option maxRecDepth 100000 in
set_option maxHeartbeats 12000000 in
theorem rdecl_any (L : List Dc) (p : Option Addr) (b off c : Nat) (i : Nat) (hi : i < L.length) (w : World) (hS : SlR w p b off L.length 8 (L.map dC)) :
    Calls Try.prog 48 #[.slice p L.length c, .int .i64 (i : Nat)] w fun e w' => ∃ e0, e = .returned (.int .i64 e0) ∧ (e0 = 0 ↔ okD L i) ∧ RowKit.Below w.heap.size w w' := by
  have HB := Lib.hid (Below.refl w.heap.size w)
  have KB := Lib.hid (fun (d : Dc) w => rbounds_any (bs d.nm) d.u d.lo d.hi d.pl w)
  have HS := Lib.hid hS
  have hmax := hS.max
  have hq := hS.ptr (by omega)
  subst hq
  have HO : Hid (∀ k d, k < L.length → L[k]? = some d → k ≤ i → okD L i → (k < i → d.nm ≠ L[i].nm) ∧ bounded d = true ∧ prodC (L.take (k + 1)) ≤ 4096) := fun k d hk hd hki h => by
    have := h hi
    obtain ⟨h1, rfl⟩ := List.getElem?_eq_some_iff.1 hd
    exact ⟨fun hl => this.1 k hl, this.2 k hki⟩
  have HOK : Hid ((∀ k d, k < i → L[k]? = some d → d.nm ≠ L[i].nm) → (∀ k d, k < i + 1 → L[k]? = some d → bounded d = true ∧ prodC (L.take (k + 1)) ≤ 4096) → okD L i) := fun h1 h2 => okD_of hi h1 h2
  have hrc : ∀ (V : World), RowKit.Below w.heap.size w V → ∀ k (hk : k < L.length) (j : Nat) (v : Value), (dC L[k])[j]? = some v → V.cell? ⟨b, off + k * 8 + j, none⟩ = some v := fun V hV k hk => ((HS.out.bel hV).at_ k (dC L[k]) (by rw [List.getElem?_map, List.getElem?_eq_getElem hk]; rfl)).2
  have HRC := Lib.hid hrc
  clear hrc hS
  obtain ⟨di, hdi⟩ : ∃ di, di = L[i] := ⟨_, rfl⟩
  rw [← hdi] at HO HOK
  have HDI := Lib.hid hdi
  clear hdi
  go_enter Try.func48, Try.ntmps48
  go_wp2_with fail
  go_loopg [5] i (fun g v5 wr => ∃ k : Nat, k ≤ i ∧ i - k ≤ g ∧ v5 = .int .i64 (k : Nat) ∧ Hid (∀ k' d, k' < k → L[k']? = some d → d.nm ≠ di.nm) ∧ Hid (RowKit.Below w.heap.size w wr))
  case atStart => exact ⟨0, Nat.zero_le _, by omega, by simp, fun k' d h => absurd h (Nat.not_lt_zero _), HB⟩
  case round =>
    obtain ⟨k, hk, hg, rfl, HM, HW⟩ := hrel
    by_cases hlt : k < i
    · have hz : (k : Int) < (i : Int) := by omega
      have hkL : k < L.length := by omega
      have zk := HRC.out wr HW.out k hkL 0 _ rfl
      have zi := HRC.out wr HW.out i hi 0 _ rfl
      simp only [Nat.add_zero] at zk zi
      have hz1 : (k : Int) < (L.length : Int) := by omega
      have hz2 : (i : Int) < (L.length : Int) := by omega
      have hdk : L[k]? = some L[k] := List.getElem?_eq_getElem hkL
      have E1 : Hid (L[k].nm ≠ di.nm → ∀ k' d, k' < k + 1 → L[k']? = some d → d.nm ≠ di.nm) := fun h k' d hk' hd => by
        by_cases e : k' = k
        · subst e; rw [hdk] at hd; cases hd; exact h
        · exact HM.out k' d (by omega) hd
      have E2 : Hid (L[k].nm = di.nm → ¬ okD L i) := fun h ho => (HO.out k _ hkL hdk (by omega) ho).1 hlt h
      rw [← HDI.out] at zi
      have e1 : ((bs L[k].nm).toList == (bs di.nm).toList) = (L[k].nm == di.nm) := by rw [bs_list, bs_list]
      have e2 : IntKind.i64.wrap ((k : Int) + 1) = ((k + 1 : Nat) : Int) := by rw [IntWalk.i64_in _ (by omega)]; rfl
      clear hdk
      generalize L[k].nm = nk at *
      by_cases hnn : nk = di.nm
      · have e3 : ((bs nk).toList == (bs di.nm).toList) = true := by rw [e1]; simpa using hnn
        have HX := Lib.hid (E2.out hnn)
        clear E1 E2 e1 hnn
        generalize bs nk = s1 at *
        generalize bs di.nm = s2 at *
        go_wp2_with fail
        go_quiet (fail)
        go_wp2_with fail
        go_ret
        exact ⟨5, rfl, ⟨fun h => absurd h (by omega), fun h => absurd h HX.out⟩, below_drewN HW.out _⟩
      · have e3 : ((bs nk).toList == (bs di.nm).toList) = false := by rw [e1]; simpa using hnn
        have HX := Lib.hid (E1.out hnn)
        clear E1 E2 e1 hnn
        generalize bs nk = s1 at *
        generalize bs di.nm = s2 at *
        go_wp2_with fail
        go_quiet (fail)
        go_wp2_with fail
        go_roundg (i - (k + 1))
        case measure => omega
        case rel => exact ⟨k + 1, by omega, Nat.le_refl _, by simp, HX, by show RowKit.Below _ _ _; exact below_drewN HW.out _⟩
    · have hz : ¬ (k : Int) < (i : Int) := by omega
      have hki : k = i := by omega
      rw [hki] at HM
      clear hlt hg
      go_wp2_with fail
      clear hz hki hk
      go_loopg [6, 7] (i + 1) (fun g v6 v7 wq => ∃ k : Nat, k ≤ i + 1 ∧ i + 1 - k ≤ g ∧ v7 = .int .i64 (k : Nat) ∧ v6 = .int .i64 (prodC (L.take k)) ∧ Hid (∀ k' d, k' < k → L[k']? = some d → bounded d = true ∧ prodC (L.take (k' + 1)) ≤ 4096) ∧ Hid (prodC (L.take k) ≤ 4096) ∧ Hid (RowKit.Below w.heap.size w wq))
      case atStart => exact ⟨0, Nat.zero_le _, by omega, by simp, rfl, fun k' d h => absurd h (Nat.not_lt_zero _), by show _ ≤ _; simp [prodC], HW⟩
      case round =>
        obtain ⟨q, hq, hg2, rfl, rfl, HP, HC, HV⟩ := hrel
        have hrg := prodC_rng (L.take q)
        by_cases hle : q ≤ i
        · have hz : (q : Int) ≤ (i : Int) := by omega
          have hqL : q < L.length := by omega
          have hz1 : (q : Int) < (L.length : Int) := by omega
          have hdq : L[q]? = some L[q] := List.getElem?_eq_getElem hqL
          have hc := HRC.out _ HV.out q hqL
          have E1 : Hid (bounded L[q] = true → prodC (L.take (q + 1)) ≤ 4096 → ∀ k' d, k' < q + 1 → L[k']? = some d → bounded d = true ∧ prodC (L.take (k' + 1)) ≤ 4096) := fun h h' k' d hk' hd => by
            by_cases e : k' = q
            · subst e; rw [hdq] at hd; cases hd; exact ⟨h, h'⟩
            · exact HP.out k' d (by omega) hd
          have E2 : Hid (¬ (bounded L[q] = true ∧ prodC (L.take (q + 1)) ≤ 4096) → ¬ okD L i) := fun h ho => h (HO.out q _ hqL hdq hle ho).2
          have E3 : Hid (prodC (L.take (q + 1)) = cases1 (prodC (L.take q)) L[q]) := by show _ = _; rw [List.take_succ_eq_append_getElem hqL, prodC_snoc]
          have KQ := Lib.hid (KB.out L[q])
          have E4 : Hid (cases1 (prodC (L.take q)) L[q] = if bounded L[q] then min (prodC (L.take q) * (L[q].hi - L[q].lo + 1)) 4097 else prodC (L.take q)) := rfl
          have KQ2 : Hid (bounded L[q] = true → 1 ≤ L[q].hi - L[q].lo + 1 ∧ L[q].hi - L[q].lo + 1 ≤ 1000001 ∧ 0 ≤ L[q].lo ∧ L[q].hi ≤ 1000000) := fun h => by
            simp only [bounded, Bool.and_eq_true, decide_eq_true_eq] at h
            omega
          have KQ3 : Hid (∀ w, Calls Try.prog 65 #[.agg (dC L[q]).toArray] w fun e w' => e = .returned (.bool (bounded L[q])) ∧ RowKit.Below w.heap.size w w') := fun w => KQ.out w
          rw [E3.out] at E1 E2
          clear hdq KQ
          generalize L[q] = d at *
          generalize hcq : prodC (L.take q) = cq at *
          obtain ⟨nm, ⟨uf, um, ua, ud⟩, lo, hi', pl⟩ := d
          generalize bounded ⟨nm, ⟨uf, um, ua, ud⟩, lo, hi', pl⟩ = bd at *
          generalize hc1 : cases1 cq ⟨nm, ⟨uf, um, ua, ud⟩, lo, hi', pl⟩ = c1 at *
          simp only [dC] at hc KQ3
          simp only at KQ2 E4
          have z0 := hc 0 _ rfl
          have z1 := hc 1 _ rfl
          have z2 := hc 2 _ rfl
          have z3 := hc 3 _ rfl
          have z4 := hc 4 _ rfl
          have z5 := hc 5 _ rfl
          have z6 := hc 6 _ rfl
          have z7 := hc 7 _ rfl
          rw [Nat.add_zero] at z0
          have e2 : IntKind.i64.wrap ((q : Int) + 1) = ((q + 1 : Nat) : Int) := by rw [IntWalk.i64_in _ (by omega)]; rfl
          clear hc hc1
          generalize bs nm = s at *
          go_wp2_with fail
          refine (KQ3.out _).mono ?_
          rintro _ V ⟨rfl, hb⟩
          have HV2 := Lib.hid (HV.out.trans (hb.mono HV.out.size))
          replace z5 := (hb.cell (World.block_lt_of_cell? _ _ z5)).trans z5
          replace z6 := (hb.cell (World.block_lt_of_cell? _ _ z6)).trans z6
          clear hb z0 z1 z2 z3 z4 z7 KQ3
          cases bd with
          | false =>
            have HX := Lib.hid (E2.out (by rintro ⟨h, -⟩; cases h))
            go_wp2_with fail
            go_ret
            exact ⟨3, rfl, ⟨fun h => absurd h (by omega), fun h => absurd h HX.out⟩, HV2.out⟩
          | true =>
            obtain ⟨k1, k2, k3, k4⟩ := KQ2.out rfl
            have ew1 : IntKind.i64.wrap (hi' - lo) = hi' - lo := IntWalk.i64_in _ (by omega)
            have ew2 : IntKind.i64.wrap (hi' - lo + 1) = hi' - lo + 1 := IntWalk.i64_in _ (by omega)
            have hpr : 0 ≤ cq * (hi' - lo + 1) ∧ cq * (hi' - lo + 1) ≤ 4097 * 1000001 := ⟨Int.mul_nonneg (by omega) (by omega), Int.mul_le_mul hrg.2 k2 (by omega) (by omega)⟩
            obtain ⟨x, hx⟩ : ∃ x, x = cq * (hi' - lo + 1) := ⟨_, rfl⟩
            have ew3 : IntKind.i64.wrap (cq * (hi' - lo + 1)) = x := by rw [← hx] at hpr ⊢; exact IntWalk.i64_in _ (by omega)
            have E8 : c1 = min x 4097 := by rw [E4.out, hx]; rfl
            clear k1 k2 k3 k4 hpr hx
            by_cases hm : 4096 < x
            · have HX := Lib.hid (E2.out (by rintro ⟨-, h⟩; omega))
              go_wp2_with fail
              go_quiet (fail)
              go_wp2_with fail
              go_ret
              exact ⟨2, rfl, ⟨fun h => absurd h (by omega), fun h => absurd h HX.out⟩, below_drewN HV2.out _⟩
            · have hcx : c1 = x := by omega
              have HX := Lib.hid (E1.out rfl (by omega))
              have hc4 : Hid (c1 ≤ 4096) := by show _ ≤ _; omega
              go_wp2_with fail
              go_quiet (fail)
              go_wp2_with fail
              go_roundg (i + 1 - (q + 1))
              case measure => omega
              case rel => exact ⟨q + 1, by omega, Nat.le_refl _, by simp, by rw [E3.out, hcx], HX, by rw [E3.out]; exact hc4, by show RowKit.Below _ _ _; exact below_drewN HV2.out _⟩
        · have hz : ¬ (q : Int) ≤ (i : Int) := by omega
          have hqi : q = i + 1 := by omega
          rw [hqi] at HP
          have HX := Lib.hid (HOK.out HM.out HP.out)
          go_wp2_with fail
          go_ret
          exact ⟨0, rfl, ⟨fun _ => HX.out, fun _ => rfl⟩, HV.out⟩
end Go.Proofs.Ytjifiijgghpniaa
/-
  Contract of the reference of units: Decls.
-/
namespace Go.Proofs.Ytjifiijgghpniaa
open Go.RowKit Un

set_option maxRecDepth 100000 in
set_option maxHeartbeats 8000000 in
theorem rDecls_any (L : List Dc) (p : Option Addr) (b off c : Nat) (w : World) (hS : SlR w p b off L.length 8 (L.map dC)) :
    Calls Try.prog 22 #[.slice p L.length c] w fun e w' => e = .returned (.bool (rightD L)) ∧ RowKit.Below w.heap.size w w' := by
  have KF := Lib.hid (rformed_any L p b off c w hS)
  have KD := Lib.hid (fun (i : Nat) (hi : i < L.length) V (h : RowKit.Below w.heap.size w V) => rdecl_any L p b off c i hi V (hS.bel h))
  have hmax := hS.max
  obtain ⟨R, hR⟩ : ∃ R, R = rightD L := ⟨_, rfl⟩
  rw [← hR]
  have HR : Hid (R = (formD L && (errsD [] L).isEmpty)) := hR
  have HI : Hid ((errsD [] L).isEmpty = true ↔ ∀ i, i < L.length → okD L i) := by show _ ↔ _; rw [List.isEmpty_iff]; exact okD_all L
  clear hR hS
  generalize (errsD [] L).isEmpty = em at *
  go_enter Try.func22, Try.ntmps22
  go_wp2_with fail
  refine KF.out.mono ?_
  rintro _ V ⟨rfl, hb⟩
  have HB := Lib.hid hb
  clear hb KF
  cases hf : formD L with
  | false =>
    have HR2 : Hid (R = false) := by show _ = _; rw [HR.out, hf]; rfl
    clear hf
    go_wp2_with fail
    go_loopg [3, 4] 0 (fun g v3 v4 wr => v3 = .bool false ∧ v4 = .int .i64 0 ∧ wr = V)
    case atStart => exact ⟨rfl, rfl, rfl⟩
    case round =>
      obtain ⟨rfl, rfl, rfl⟩ := hrel
      go_wp2_with fail
      go_ret
      exact ⟨ret_bool HR2.out.symm, HB.out⟩
  | true =>
    have HR2 : Hid (R = em) := by show _ = _; rw [HR.out, hf]; rfl
    clear hf HR
    go_wp2_with fail
    go_loopg [3, 4] (L.length + 1) (fun g v3 v4 wr => ∃ (i : Nat) (bb : Bool), i ≤ L.length ∧ L.length + 1 - i ≤ g ∧ v4 = .int .i64 (i : Nat) ∧ v3 = .bool bb ∧ Hid (bb = true → ∀ k, k < i → okD L k) ∧ Hid (bb = false → R = false) ∧ Hid (RowKit.Below w.heap.size w wr))
    case atStart => exact ⟨0, true, Nat.zero_le _, by omega, by simp, rfl, fun _ k h => absurd h (Nat.not_lt_zero _), (fun h => by cases h), HB⟩
    case round =>
      obtain ⟨i, bb, hi, hg, rfl, rfl, H1, H2, HW⟩ := hrel
      cases bb with
      | false =>
        have HX := Lib.hid (H2.out rfl)
        go_wp2_with fail
        go_ret
        exact ⟨ret_bool HX.out.symm, HW.out⟩
      | true =>
        have HA := Lib.hid (H1.out rfl)
        by_cases hlt : i < L.length
        · have hz : (i : Int) < (L.length : Int) := by omega
          have KQ := Lib.hid (KD.out i hlt _ HW.out)
          have e2 : IntKind.i64.wrap ((i : Int) + 1) = ((i + 1 : Nat) : Int) := by rw [IntWalk.i64_in _ (by omega)]; rfl
          go_wp2_with fail
          refine KQ.out.mono ?_
          rintro _ V2 ⟨e0, rfl, he, hb⟩
          have HW2 := Lib.hid (HW.out.trans (hb.mono HW.out.size))
          clear hb KQ
          by_cases h0 : e0 = 0
          · have HO := Lib.hid (he.1 h0)
            clear he
            subst h0
            go_wp2_with fail
            go_roundg (L.length + 1 - (i + 1))
            case measure => omega
            case rel => exact ⟨i + 1, true, by omega, Nat.le_refl _, by simp, rfl, fun _ k hk => by
              by_cases e : k = i
              · subst e; exact HO.out
              · exact HA.out k (by omega), (fun h => by cases h), HW2⟩
          · have HO : Hid (R = false) := by
              show _ = _
              rw [HR2.out]
              cases hem : em with
              | false => rfl
              | true => exact absurd (he.2 (HI.out.1 hem i hlt)) h0
            have hzb : (e0 == 0) = false := by simpa using h0
            clear he h0
            go_wp2_with fail
            go_roundg (L.length + 1 - (i + 1))
            case measure => omega
            case rel => exact ⟨i + 1, false, by omega, Nat.le_refl _, by simp, rfl, (fun h => by cases h), fun _ => HO.out, HW2⟩
        · have hz : ¬ (i : Int) < (L.length : Int) := by omega
          have hie : i = L.length := by omega
          rw [hie] at HA
          have HX : Hid (R = true) := HR2.out.trans (HI.out.2 HA.out)
          go_wp2_with fail
          go_ret
          exact ⟨ret_bool HX.out.symm, HW.out⟩
end Go.Proofs.Ytjifiijgghpniaa
