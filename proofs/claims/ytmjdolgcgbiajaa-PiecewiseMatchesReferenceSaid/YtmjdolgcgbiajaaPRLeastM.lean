/-
  Mathematics of the reference's Least and Below: between two places where pieces begin.
-/
import Derived.Test.YtmjdolgcgbiajaaPTaken
import Derived.Test.YtmjdolgcgbiajaaPLeastW
namespace Go.Proofs.Ytmjdolgcgbiajaa
open Go.RowKit Go.Shelf Pw

theorem cm_le_iff {a b : Rat} : cm a b ≤ 0 ↔ a ≤ b := by
  unfold cm
  split
  · rename_i h; exact ⟨fun _ => Rat.le_of_lt h, fun _ => by omega⟩
  · rename_i h
    split
    · rename_i h2; exact ⟨fun k => by omega, fun k => absurd h2 (Rat.not_lt.2 k)⟩
    · rename_i h2; exact ⟨fun _ => Rat.not_lt.1 h2, fun _ => by omega⟩
/-- Is the first line not above the second one? -/
def leq (p q : AP) (x : Int) : Bool := decide (p.at x ≤ q.at x)
theorem leq_lt (p q : AP) (x : Int) : leq p q x = !decide (q.at x < p.at x) := by
  unfold leq
  by_cases h : q.at x < p.at x
  · rw [decide_eq_true h, decide_eq_false (Rat.not_le.2 h)]; rfl
  · rw [decide_eq_false h, decide_eq_true (Rat.not_lt.1 h)]; rfl
theorem leq_mono {p q : AP} {x y z : Int} (hxy : x ≤ y) (hyz : y ≤ z) (h : leq p q y ≠ leq p q x) : leq p q z = leq p q y := by
  rw [leq_lt, leq_lt] at h ⊢
  rw [less_mono (p := q) (q := p) (x := x) (y := y) (z := z) hxy hyz (fun e => h (by rw [e]))]
/-- A place where a piece begins, and the next one. -/
structure Seg (f g : List RP) (X Y : Nat) : Prop where
  lt : X < Y
  le : Y ≤ 100001
  on : isS (AA f) (AA g) X = true
  no : ∀ y : Int, X < y → y < Y → isS (AA f) (AA g) y = false
theorem seg_at {f g : List RP} {k : Nat} (hk : k < (ps (isS (AA f) (AA g)) 100001).length) : ∃ X Y : Nat, (ps (isS (AA f) (AA g)) 100001)[k] = X ∧ (∀ h : k + 1 < (ps (isS (AA f) (AA g)) 100001).length, (ps (isS (AA f) (AA g)) 100001)[k + 1] = Y) ∧ (¬ k + 1 < (ps (isS (AA f) (AA g)) 100001).length → Y = 100001) ∧ Seg f g X Y := by
  obtain ⟨X, h1, h2, h3, h4, h5, h6⟩ := ps_get hk
  by_cases h : k + 1 < (ps (isS (AA f) (AA g)) 100001).length
  · obtain ⟨a, b⟩ := h5 h
    have m := ps_mem.1 (List.getElem_mem h)
    refine ⟨X, ((ps (isS (AA f) (AA g)) 100001)[k + 1]).toNat, h1, fun _ => by omega, fun q => absurd h q, ⟨by omega, by omega, h3, fun y y1 y2 => b y y1 (by omega)⟩⟩
  · exact ⟨X, 100001, h1, fun q => absurd q h, fun _ => rfl, ⟨h2, Nat.le_refl _, h3, fun y y1 y2 => h6 (by omega) y y1 y2⟩⟩
theorem Seg.const {f g : List RP} {X Y : Nat} (h : Seg f g X Y) {z : Int} (h1 : (X : Int) ≤ z) (h2 : z < Y) : pA (AA f) z = pA (AA f) X ∧ pA (AA g) z = pA (AA g) X :=
  ⟨(pA_const h1 fun y a b => (isS_false.1 (h.no y a (by omega))).1).symm, (pA_const h1 fun y a b => (isS_false.1 (h.no y a (by omega))).2).symm⟩
theorem Seg.ls {f g : List RP} {X Y : Nat} (h : Seg f g X Y) {z : Int} (h1 : (X : Int) ≤ z) (h2 : z < Y) : lsF (AA f) (AA g) z = leq (pA (AA f) X) (pA (AA g) X) z := by
  obtain ⟨e1, e2⟩ := h.const h1 h2
  unfold lsF leq vl
  rw [e1, e2]
theorem Seg.turn {f g : List RP} {X Y t : Nat} (h : Seg f g X Y) (h1 : X < t) (h2 : t ≤ Y) (h3 : ∀ y : Int, X ≤ y → y < t → leq (pA (AA f) X) (pA (AA g) X) y = leq (pA (AA f) X) (pA (AA g) X) X)
    (h4 : t < Y → leq (pA (AA f) X) (pA (AA g) X) t ≠ leq (pA (AA f) X) (pA (AA g) X) X) :
    ps (isT (AA f) (AA g)) Y = ps (isT (AA f) (AA g)) X ++ (if t < Y then [(X : Int), (t : Int)] else [(X : Int)]) := by
  have hX : isT (AA f) (AA g) X = true := by unfold isT; rw [h.on, Bool.true_or]
  by_cases ht : t < Y
  · rw [if_pos ht]
    refine ps_two hX h1 ht ?_ fun y y1 y2 y3 => ?_
    · unfold isT
      rw [h.ls (z := t) (by omega) (by omega), h.ls (z := (t : Int) - 1) (by omega) (by omega), h3 ((t : Int) - 1) (by omega) (by omega)]
      have := h4 ht
      simpa using Or.inr this
    · obtain ⟨n1, n2⟩ := isS_false.1 (h.no y y1 y2)
      refine isT_false.2 ⟨n1, n2, ?_⟩
      rw [h.ls (z := y) (by omega) y2, h.ls (z := y - 1) (by omega) (by omega)]
      by_cases hy : y < t
      · rw [h3 y (by omega) hy, h3 (y - 1) (by omega) (by omega)]
      · rw [leq_mono (x := X) (y := t) (z := y) (by omega) (by omega) (h4 ht), leq_mono (x := X) (y := t) (z := y - 1) (by omega) (by omega) (h4 ht)]
  · rw [if_neg ht]
    refine ps_one hX h.lt fun y y1 y2 => ?_
    obtain ⟨n1, n2⟩ := isS_false.1 (h.no y y1 y2)
    refine isT_false.2 ⟨n1, n2, ?_⟩
    rw [h.ls (z := y) (by omega) y2, h.ls (z := y - 1) (by omega) (by omega), h3 y (by omega) (by omega), h3 (y - 1) (by omega) (by omega)]
/-- What is taken at a place. -/
def tkR (P Q : RP) (c : Bool) (x n d : Int) : RP := if c then ⟨x, n, d, P.sn, P.sd⟩ else ⟨x, n, d, Q.sn, Q.sd⟩
theorem tkR_is {f g : List RP} (hf : VR f) (hg : VR g) {X Y : Nat} (h : Seg f g X Y) {z : Int} (h1 : (X : Int) ≤ z) (h2 : z < Y) {P Q : RP} (hP : P = pcX f X) (hQ : Q = pcX g X) {c : Bool} (hc : leq (toAP P) (toAP Q) z = c) {n d : Int}
    (hn : n = ((toAP (if c then P else Q)).at z).num) (hd : d = ((toAP (if c then P else Q)).at z).den) : toRP (tkH (AA f) (AA g) z) = tkR P Q c z n d := by
  have eP := (pcX_at hf X).2
  have eQ := (pcX_at hg X).2
  rw [← hP] at eP
  rw [← hQ] at eQ
  have s1 := slope_nd (pcX_wl hf X).1
  have s2 := slope_nd (pcX_wl hg X).1
  rw [← hP] at s1
  rw [← hQ] at s2
  obtain ⟨e1, e2⟩ := h.const h1 h2
  unfold tkH tkR
  rw [h.ls h1 h2, ← eP, ← eQ, hc, e1, e2, ← eP, ← eQ, hn, hd]
  cases c with
  | true =>
    simp only [if_true]
    rw [← s1.1, ← s1.2]
    rfl
  | false =>
    simp only [Bool.false_eq_true, if_false]
    rw [← s2.1, ← s2.2]
    rfl
theorem rleast_is {f g : List RP} : chR (rdW ((ps (isT (AA f) (AA g)) 100001).map fun x => toRP (tkH (AA f) (AA g) x))) = leastR f g := by
  have h := chR_W (A := leastL (AA f) (AA g)) fun q hq => by
    obtain ⟨x, hx, rfl⟩ := List.mem_map.1 hq
    rw [tkH_f]
    exact ps_in rfl hx
  unfold leastL at h
  rw [List.map_map] at h
  exact h
theorem tkH_ok {f g : List RP} (hf : VR f) (hg : VR g) {x : Int} (x0 : 0 ≤ x) (x1 : x ≤ 100000) : (toRP (tkH (AA f) (AA g) x)).In ∧ 1 ≤ liD (toRP (tkH (AA f) (AA g) x)) := by
  have b1 := vl_bd hf x0 x1
  have b2 := vl_bd hg x0 x1
  have s1 := pcX_wl hf x
  have s2 := pcX_wl hg x
  have e1 := slope_nd s1.1
  have e2 := slope_nd s2.1
  have k1 := wl_val s1.1
  have k2 := wl_val s2.1
  rw [(pcX_at hf x).2] at e1
  rw [(pcX_at hg x).2] at e2
  have p1 := den_pos (vl (AA f) x)
  have p2 := den_pos (vl (AA g) x)
  unfold tkH
  split
  · refine ⟨⟨?_, ?_, ?_, ?_, ?_⟩, liD_pos (v := vl (AA f) x) (s := (pA (AA f) x).s) (by omega) (by omega) x⟩
    · show In64 x; unfold In64; omega
    · show In64 (vl (AA f) x).num; unfold In64; omega
    · show In64 ((vl (AA f) x).den : Int); unfold In64; omega
    · show In64 (pA (AA f) x).s.num; unfold In64; omega
    · show In64 ((pA (AA f) x).s.den : Int); unfold In64; omega
  · refine ⟨⟨?_, ?_, ?_, ?_, ?_⟩, liD_pos (v := vl (AA g) x) (s := (pA (AA g) x).s) (by omega) (by omega) x⟩
    · show In64 x; unfold In64; omega
    · show In64 (vl (AA g) x).num; unfold In64; omega
    · show In64 ((vl (AA g) x).den : Int); unfold In64; omega
    · show In64 (pA (AA g) x).s.num; unfold In64; omega
    · show In64 ((pA (AA g) x).s.den : Int); unfold In64; omega
end Go.Proofs.Ytmjdolgcgbiajaa
