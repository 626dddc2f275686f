/-
  The reference's Union, Meet and Without: the same values as the program's.
-/
import Derived.Test.YtomcngnfdflkkaaSRef
namespace Go.Proofs.Ytomcngnfdflkkaa
open Go.RowKit Spn Go.Sort

theorem Mk.congr' {w : World} {g : Nat} {K M : Int → Bool} (h : Mk w g K) (e : ∀ k : Nat, k < 36525 → K k = M k) : Mk w g M := fun k hk => ⟨by rw [(h k hk).1, e k hk], (h k hk).2⟩
theorem Mk.other {w : World} {g D : Nat} {K : Int → Bool} (h : Mk w g K) (hg : g ≠ D) (d : Nat) (v : Value) : Mk (w.setCell ⟨D, d, none⟩ v) g K := fun k hk =>
  ⟨by rw [World.cell?_setCell_other _ _ _ _ (fun x => by injection x with x _ _; exact hg x.symm)]; exact (h k hk).1, by rw [World.frozen?_setCell]; exact (h k hk).2⟩

set_option maxHeartbeats 1000000 in
set_option maxRecDepth 100000 in
theorem rUnion_any (a b : List (Int × Int)) (p p' : Option Addr) (bl off cap len bl' off' cap' len' : Nat) (w : World) (hS : Sl w p bl off len a) (hS' : Sl w p' bl' off' len' b) :
    Calls Try.prog 16 #[.slice p len cap, .slice p' len' cap'] w fun e w' => Out2 w (opV kU a b) (opE kU a b) e w' := by
  have HS := Lib.hid hS
  have HS' := Lib.hid hS'
  cases hv : vl a with
  | false =>
    have KV := Lib.hid (rValid_b a p bl off cap len false hv)
    have EV : Hid (opV kU a b = []) := by show _ = _; unfold opV; rw [hv]; rfl
    have EE : Hid (opE kU a b = 1) := by show _ = _; unfold opE; rw [hv]; rfl
    clear hv hS hS'
    go_enter Try.func16, Try.ntmps16
    go_wp2_with fail
    refine (KV.out _ HS.out).mono ?_
    rintro _ w1 ⟨rfl, hb⟩
    have HR : Hid (Out2 w (opV kU a b) (opE kU a b) (.returned (.tuple #[.slice none 0 0, .int .i64 1])) w1) := by show Out2 _ _ _ _ _; rw [EV.out, EE.out]; exact Out2.bad hb
    clear hb
    go_wp2
    go_ret2
    exact HR.out
  | true =>
    have KV := Lib.hid (rValid_b a p bl off cap len true hv)
    have HVA := Lib.hid (vl_iff.1 hv)
    cases hv' : vl b with
    | false =>
      have KV' := Lib.hid (rValid_b b p' bl' off' cap' len' false hv')
      have EV : Hid (opV kU a b = []) := by show _ = _; unfold opV; rw [hv, hv']; rfl
      have EE : Hid (opE kU a b = 1) := by show _ = _; unfold opE; rw [hv, hv']; rfl
      clear hv hv' hS hS'
      go_enter Try.func16, Try.ntmps16
      go_wp2_with fail
      refine (KV.out _ HS.out).mono ?_
      rintro _ w1 ⟨rfl, hb⟩
      have HB := Lib.hid hb
      clear hb
      go_wp2_with fail
      refine (KV'.out _ (HS'.out.below HB.out)).mono ?_
      rintro _ w2 ⟨rfl, hb⟩
      have HR : Hid (Out2 w (opV kU a b) (opE kU a b) (.returned (.tuple #[.slice none 0 0, .int .i64 1])) w2) := by show Out2 _ _ _ _ _; rw [EV.out, EE.out]; exact Out2.bad (HB.out.trans (hb.mono HB.out.size))
      clear hb
      go_wp2
      go_ret2
      exact HR.out
    | true =>
      have KV' := Lib.hid (rValid_b b p' bl' off' cap' len' true hv')
      have HVB := Lib.hid (vl_iff.1 hv')
      have EV : Hid (swV (runs fun d => kU (cov a d) (cov b d)) = opV kU a b) := by show _ = _; unfold opV; rw [hv, hv']; rfl
      have EE : Hid (swE (runs fun d => kU (cov a d) (cov b d)) = opE kU a b) := by show _ = _; unfold opE; rw [hv, hv']; rfl
      clear hv hv' hS hS'
      go_enter Try.func16, Try.ntmps16
      go_wp2_with fail
      refine (KV.out _ HS.out).mono ?_
      rintro _ w1 ⟨rfl, hb⟩
      have HB := Lib.hid hb
      clear hb
      go_wp2_with fail
      refine (KV'.out _ (HS'.out.below HB.out)).mono ?_
      rintro _ w2 ⟨rfl, hb⟩
      have HB2 := Lib.hid (HB.out.trans (hb.mono HB.out.size))
      clear hb HB
      go_wp2_with fail
      refine (marks_any a p bl off cap len _ (HS.out.below HB2.out) HVA.out.2.1).mono ?_
      rintro _ w3 ⟨g, n, rfl, hn, hM, hg0, hg, hb⟩
      have HB3 := Lib.hid (HB2.out.trans (hb.mono HB2.out.size))
      have HM := Lib.hid hM
      have HG := Lib.hid hg
      have HG0 : Hid (w.heap.size ≤ g) := Nat.le_trans HB2.out.size hg0
      have HN := Lib.hid hn
      clear hM hg hb hg0 hn HB2
      go_wp2_with fail
      refine (marks_any b p' bl' off' cap' len' _ (HS'.out.below HB3.out) HVB.out.2.1).mono ?_
      rintro _ w4 ⟨g', n', rfl, hn', hM', hg0', hg', hb⟩
      have HB4 := Lib.hid (HB3.out.trans (hb.mono HB3.out.size))
      have HM4 := Lib.hid (HM.out.below hb HG.out)
      have HG4 : Hid (g < w4.heap.size) := Nat.lt_of_lt_of_le HG.out hb.size
      have HM' := Lib.hid hM'
      have HG' := Lib.hid hg'
      have HGG : Hid (g ≠ g') := by show _ ≠ _; have := HG.out; omega
      have HN' := Lib.hid hn'
      clear hM' hg' hb hg0' hn' HB3 HM HG
      have hn1 : n ≤ 36525 := by have := HN.out; omega
      have hnn : n' = n := by have := HN.out; have := HN'.out; omega
      subst hnn
      go_wp2_with fail
      go_loopg [8] n' (fun gg s8 wr => ∃ d : Nat, s8 = .int .i64 d ∧ d ≤ n' ∧ n' - d ≤ gg ∧ Hid (Mk wr g (fun t => if t < (d : Int) then kU (cov a t) (cov b t) else cov a t)) ∧ Hid (Mk wr g' (cov b)) ∧ Hid (RowKit.Below w.heap.size w wr) ∧ Hid (g < wr.heap.size ∧ g' < wr.heap.size))
      case atStart => exact ⟨0, rfl, by omega, by omega, HM4.out.congr' (fun k hk => by rw [if_neg (by omega)]), HM'.out, HB4.out, ⟨HG4.out, HG'.out⟩⟩
      case round =>
        obtain ⟨d, rfl, hd, hdg, HMr, HMr', HBr, HGr⟩ := hrel
        clear HM4 HM' HB4 HG4 HG' w4
        by_cases hlt : d < n'
        · have hltz : (d : Int) < (n' : Int) := by omega
          have hdn : d < 36525 := by omega
          obtain ⟨x, hx⟩ : ∃ x, x = cov a d := ⟨_, rfl⟩
          obtain ⟨y, hy⟩ : ∃ x, x = cov b d := ⟨_, rfl⟩
          have c1 := (HMr.out d hdn).1
          have c2 := (HMr'.out d hdn).1
          have c3 := (HMr.out d hdn).2
          simp only [] at c1
          rw [if_neg (by omega), ← hx] at c1
          rw [← hy] at c2
          have HMn : Hid (Mk (wr.setCell ⟨g, d, none⟩ (.bool (kU x y))) g (fun t => if t < ((d + 1 : Nat) : Int) then kU (cov a t) (cov b t) else cov a t)) := (HMr.out.set d hdn (kU x y)).congr (fun t => by
            show (if t = (d : Int) then _ else _) = _
            by_cases h : t = (d : Int)
            · rw [if_pos h, if_pos (by omega), h, hx, hy]
            · rw [if_neg h]
              by_cases h2 : t < (d : Int)
              · rw [if_pos h2, if_pos (by omega)]
              · rw [if_neg h2, if_neg (by omega)])
          have HMn' : Hid (Mk (wr.setCell ⟨g, d, none⟩ (.bool (kU x y))) g' (cov b)) := HMr'.out.other (fun h => HGG.out h.symm) _ _
          have HBn : Hid (RowKit.Below w.heap.size w (wr.setCell ⟨g, d, none⟩ (.bool (kU x y)))) := HBr.out.setCell (by show w.heap.size ≤ g; exact HG0.out) _
          have HGn : Hid (g < (wr.setCell ⟨g, d, none⟩ (.bool (kU x y))).heap.size ∧ g' < (wr.setCell ⟨g, d, none⟩ (.bool (kU x y))).heap.size) := by show _ ∧ _; rw [World.size_setCell]; exact HGr.out
          clear hx hy
          cases x with
          | false =>
            cases y with
            | false =>
              rw [show kU false false = false from rfl] at HMn HMn' HBn HGn
              go_wp2
              go_roundg (n' - (d + 1))
              case measure => omega
              case rel => exact ⟨d + 1, by go_num, by omega, by omega, HMn, HMn', HBn, HGn⟩
            | true =>
              rw [show kU false true = true from rfl] at HMn HMn' HBn HGn
              go_wp2
              go_roundg (n' - (d + 1))
              case measure => omega
              case rel => exact ⟨d + 1, by go_num, by omega, by omega, HMn, HMn', HBn, HGn⟩
          | true =>
            cases y with
            | false =>
              rw [show kU true false = true from rfl] at HMn HMn' HBn HGn
              go_wp2
              go_roundg (n' - (d + 1))
              case measure => omega
              case rel => exact ⟨d + 1, by go_num, by omega, by omega, HMn, HMn', HBn, HGn⟩
            | true =>
              rw [show kU true true = true from rfl] at HMn HMn' HBn HGn
              go_wp2
              go_roundg (n' - (d + 1))
              case measure => omega
              case rel => exact ⟨d + 1, by go_num, by omega, by omega, HMn, HMn', HBn, HGn⟩
        · have hltz : ¬ (d : Int) < (n' : Int) := by omega
          have hde : d = 36525 := by have := HN.out; omega
          have hMf : Mk wr g (fun t => kU (cov a t) (cov b t)) := HMr.out.congr' (fun k hk => by show (if (k : Int) < (d : Int) then _ else _) = _; rw [if_pos (by omega)])
          have KS := Lib.hid (set_any (fun t => kU (cov a t) (cov b t)) g n' HN.out wr hMf HGr.out.1)
          clear hMf hde
          go_wp2_with fail
          refine KS.out.mono ?_
          rintro e w5 hO
          have hO2 := hO.mono HBr.out
          rw [EV.out, EE.out] at hO2
          obtain ⟨pp, gb, ln, cp, rfl, hs, hb⟩ := hO2
          have HR : Hid (Out2 w (opV kU a b) (opE kU a b) (.returned (.tuple #[.slice pp ln cp, .int .i64 (opE kU a b)])) w5) := ⟨pp, gb, ln, cp, rfl, hs, hb⟩
          clear hO hs hb
          go_wp2
          go_ret2
          exact HR.out

set_option maxHeartbeats 1000000 in
set_option maxRecDepth 100000 in
theorem rMeet_any (a b : List (Int × Int)) (p p' : Option Addr) (bl off cap len bl' off' cap' len' : Nat) (w : World) (hS : Sl w p bl off len a) (hS' : Sl w p' bl' off' len' b) :
    Calls Try.prog 18 #[.slice p len cap, .slice p' len' cap'] w fun e w' => Out2 w (opV kM a b) (opE kM a b) e w' := by
  have HS := Lib.hid hS
  have HS' := Lib.hid hS'
  cases hv : vl a with
  | false =>
    have KV := Lib.hid (rValid_b a p bl off cap len false hv)
    have EV : Hid (opV kM a b = []) := by show _ = _; unfold opV; rw [hv]; rfl
    have EE : Hid (opE kM a b = 1) := by show _ = _; unfold opE; rw [hv]; rfl
    clear hv hS hS'
    go_enter Try.func18, Try.ntmps18
    go_wp2_with fail
    refine (KV.out _ HS.out).mono ?_
    rintro _ w1 ⟨rfl, hb⟩
    have HR : Hid (Out2 w (opV kM a b) (opE kM a b) (.returned (.tuple #[.slice none 0 0, .int .i64 1])) w1) := by show Out2 _ _ _ _ _; rw [EV.out, EE.out]; exact Out2.bad hb
    clear hb
    go_wp2
    go_ret2
    exact HR.out
  | true =>
    have KV := Lib.hid (rValid_b a p bl off cap len true hv)
    have HVA := Lib.hid (vl_iff.1 hv)
    cases hv' : vl b with
    | false =>
      have KV' := Lib.hid (rValid_b b p' bl' off' cap' len' false hv')
      have EV : Hid (opV kM a b = []) := by show _ = _; unfold opV; rw [hv, hv']; rfl
      have EE : Hid (opE kM a b = 1) := by show _ = _; unfold opE; rw [hv, hv']; rfl
      clear hv hv' hS hS'
      go_enter Try.func18, Try.ntmps18
      go_wp2_with fail
      refine (KV.out _ HS.out).mono ?_
      rintro _ w1 ⟨rfl, hb⟩
      have HB := Lib.hid hb
      clear hb
      go_wp2_with fail
      refine (KV'.out _ (HS'.out.below HB.out)).mono ?_
      rintro _ w2 ⟨rfl, hb⟩
      have HR : Hid (Out2 w (opV kM a b) (opE kM a b) (.returned (.tuple #[.slice none 0 0, .int .i64 1])) w2) := by show Out2 _ _ _ _ _; rw [EV.out, EE.out]; exact Out2.bad (HB.out.trans (hb.mono HB.out.size))
      clear hb
      go_wp2
      go_ret2
      exact HR.out
    | true =>
      have KV' := Lib.hid (rValid_b b p' bl' off' cap' len' true hv')
      have HVB := Lib.hid (vl_iff.1 hv')
      have EV : Hid (swV (runs fun d => kM (cov a d) (cov b d)) = opV kM a b) := by show _ = _; unfold opV; rw [hv, hv']; rfl
      have EE : Hid (swE (runs fun d => kM (cov a d) (cov b d)) = opE kM a b) := by show _ = _; unfold opE; rw [hv, hv']; rfl
      clear hv hv' hS hS'
      go_enter Try.func18, Try.ntmps18
      go_wp2_with fail
      refine (KV.out _ HS.out).mono ?_
      rintro _ w1 ⟨rfl, hb⟩
      have HB := Lib.hid hb
      clear hb
      go_wp2_with fail
      refine (KV'.out _ (HS'.out.below HB.out)).mono ?_
      rintro _ w2 ⟨rfl, hb⟩
      have HB2 := Lib.hid (HB.out.trans (hb.mono HB.out.size))
      clear hb HB
      go_wp2_with fail
      refine (marks_any a p bl off cap len _ (HS.out.below HB2.out) HVA.out.2.1).mono ?_
      rintro _ w3 ⟨g, n, rfl, hn, hM, hg0, hg, hb⟩
      have HB3 := Lib.hid (HB2.out.trans (hb.mono HB2.out.size))
      have HM := Lib.hid hM
      have HG := Lib.hid hg
      have HG0 : Hid (w.heap.size ≤ g) := Nat.le_trans HB2.out.size hg0
      have HN := Lib.hid hn
      clear hM hg hb hg0 hn HB2
      go_wp2_with fail
      refine (marks_any b p' bl' off' cap' len' _ (HS'.out.below HB3.out) HVB.out.2.1).mono ?_
      rintro _ w4 ⟨g', n', rfl, hn', hM', hg0', hg', hb⟩
      have HB4 := Lib.hid (HB3.out.trans (hb.mono HB3.out.size))
      have HM4 := Lib.hid (HM.out.below hb HG.out)
      have HG4 : Hid (g < w4.heap.size) := Nat.lt_of_lt_of_le HG.out hb.size
      have HM' := Lib.hid hM'
      have HG' := Lib.hid hg'
      have HGG : Hid (g ≠ g') := by show _ ≠ _; have := HG.out; omega
      have HN' := Lib.hid hn'
      clear hM' hg' hb hg0' hn' HB3 HM HG
      have hn1 : n ≤ 36525 := by have := HN.out; omega
      have hnn : n' = n := by have := HN.out; have := HN'.out; omega
      subst hnn
      go_wp2_with fail
      go_loopg [8] n' (fun gg s8 wr => ∃ d : Nat, s8 = .int .i64 d ∧ d ≤ n' ∧ n' - d ≤ gg ∧ Hid (Mk wr g (fun t => if t < (d : Int) then kM (cov a t) (cov b t) else cov a t)) ∧ Hid (Mk wr g' (cov b)) ∧ Hid (RowKit.Below w.heap.size w wr) ∧ Hid (g < wr.heap.size ∧ g' < wr.heap.size))
      case atStart => exact ⟨0, rfl, by omega, by omega, HM4.out.congr' (fun k hk => by rw [if_neg (by omega)]), HM'.out, HB4.out, ⟨HG4.out, HG'.out⟩⟩
      case round =>
        obtain ⟨d, rfl, hd, hdg, HMr, HMr', HBr, HGr⟩ := hrel
        clear HM4 HM' HB4 HG4 HG' w4
        by_cases hlt : d < n'
        · have hltz : (d : Int) < (n' : Int) := by omega
          have hdn : d < 36525 := by omega
          obtain ⟨x, hx⟩ : ∃ x, x = cov a d := ⟨_, rfl⟩
          obtain ⟨y, hy⟩ : ∃ x, x = cov b d := ⟨_, rfl⟩
          have c1 := (HMr.out d hdn).1
          have c2 := (HMr'.out d hdn).1
          have c3 := (HMr.out d hdn).2
          simp only [] at c1
          rw [if_neg (by omega), ← hx] at c1
          rw [← hy] at c2
          have HMn : Hid (Mk (wr.setCell ⟨g, d, none⟩ (.bool (kM x y))) g (fun t => if t < ((d + 1 : Nat) : Int) then kM (cov a t) (cov b t) else cov a t)) := (HMr.out.set d hdn (kM x y)).congr (fun t => by
            show (if t = (d : Int) then _ else _) = _
            by_cases h : t = (d : Int)
            · rw [if_pos h, if_pos (by omega), h, hx, hy]
            · rw [if_neg h]
              by_cases h2 : t < (d : Int)
              · rw [if_pos h2, if_pos (by omega)]
              · rw [if_neg h2, if_neg (by omega)])
          have HMn' : Hid (Mk (wr.setCell ⟨g, d, none⟩ (.bool (kM x y))) g' (cov b)) := HMr'.out.other (fun h => HGG.out h.symm) _ _
          have HBn : Hid (RowKit.Below w.heap.size w (wr.setCell ⟨g, d, none⟩ (.bool (kM x y)))) := HBr.out.setCell (by show w.heap.size ≤ g; exact HG0.out) _
          have HGn : Hid (g < (wr.setCell ⟨g, d, none⟩ (.bool (kM x y))).heap.size ∧ g' < (wr.setCell ⟨g, d, none⟩ (.bool (kM x y))).heap.size) := by show _ ∧ _; rw [World.size_setCell]; exact HGr.out
          clear hx hy
          cases x with
          | false =>
            cases y with
            | false =>
              rw [show kM false false = false from rfl] at HMn HMn' HBn HGn
              go_wp2
              go_roundg (n' - (d + 1))
              case measure => omega
              case rel => exact ⟨d + 1, by go_num, by omega, by omega, HMn, HMn', HBn, HGn⟩
            | true =>
              rw [show kM false true = false from rfl] at HMn HMn' HBn HGn
              go_wp2
              go_roundg (n' - (d + 1))
              case measure => omega
              case rel => exact ⟨d + 1, by go_num, by omega, by omega, HMn, HMn', HBn, HGn⟩
          | true =>
            cases y with
            | false =>
              rw [show kM true false = false from rfl] at HMn HMn' HBn HGn
              go_wp2
              go_roundg (n' - (d + 1))
              case measure => omega
              case rel => exact ⟨d + 1, by go_num, by omega, by omega, HMn, HMn', HBn, HGn⟩
            | true =>
              rw [show kM true true = true from rfl] at HMn HMn' HBn HGn
              go_wp2
              go_roundg (n' - (d + 1))
              case measure => omega
              case rel => exact ⟨d + 1, by go_num, by omega, by omega, HMn, HMn', HBn, HGn⟩
        · have hltz : ¬ (d : Int) < (n' : Int) := by omega
          have hde : d = 36525 := by have := HN.out; omega
          have hMf : Mk wr g (fun t => kM (cov a t) (cov b t)) := HMr.out.congr' (fun k hk => by show (if (k : Int) < (d : Int) then _ else _) = _; rw [if_pos (by omega)])
          have KS := Lib.hid (set_any (fun t => kM (cov a t) (cov b t)) g n' HN.out wr hMf HGr.out.1)
          clear hMf hde
          go_wp2_with fail
          refine KS.out.mono ?_
          rintro e w5 hO
          have hO2 := hO.mono HBr.out
          rw [EV.out, EE.out] at hO2
          obtain ⟨pp, gb, ln, cp, rfl, hs, hb⟩ := hO2
          have HR : Hid (Out2 w (opV kM a b) (opE kM a b) (.returned (.tuple #[.slice pp ln cp, .int .i64 (opE kM a b)])) w5) := ⟨pp, gb, ln, cp, rfl, hs, hb⟩
          clear hO hs hb
          go_wp2
          go_ret2
          exact HR.out

set_option maxHeartbeats 1000000 in
set_option maxRecDepth 100000 in
theorem rWithout_any (a b : List (Int × Int)) (p p' : Option Addr) (bl off cap len bl' off' cap' len' : Nat) (w : World) (hS : Sl w p bl off len a) (hS' : Sl w p' bl' off' len' b) :
    Calls Try.prog 20 #[.slice p len cap, .slice p' len' cap'] w fun e w' => Out2 w (opV kW a b) (opE kW a b) e w' := by
  have HS := Lib.hid hS
  have HS' := Lib.hid hS'
  cases hv : vl a with
  | false =>
    have KV := Lib.hid (rValid_b a p bl off cap len false hv)
    have EV : Hid (opV kW a b = []) := by show _ = _; unfold opV; rw [hv]; rfl
    have EE : Hid (opE kW a b = 1) := by show _ = _; unfold opE; rw [hv]; rfl
    clear hv hS hS'
    go_enter Try.func20, Try.ntmps20
    go_wp2_with fail
    refine (KV.out _ HS.out).mono ?_
    rintro _ w1 ⟨rfl, hb⟩
    have HR : Hid (Out2 w (opV kW a b) (opE kW a b) (.returned (.tuple #[.slice none 0 0, .int .i64 1])) w1) := by show Out2 _ _ _ _ _; rw [EV.out, EE.out]; exact Out2.bad hb
    clear hb
    go_wp2
    go_ret2
    exact HR.out
  | true =>
    have KV := Lib.hid (rValid_b a p bl off cap len true hv)
    have HVA := Lib.hid (vl_iff.1 hv)
    cases hv' : vl b with
    | false =>
      have KV' := Lib.hid (rValid_b b p' bl' off' cap' len' false hv')
      have EV : Hid (opV kW a b = []) := by show _ = _; unfold opV; rw [hv, hv']; rfl
      have EE : Hid (opE kW a b = 1) := by show _ = _; unfold opE; rw [hv, hv']; rfl
      clear hv hv' hS hS'
      go_enter Try.func20, Try.ntmps20
      go_wp2_with fail
      refine (KV.out _ HS.out).mono ?_
      rintro _ w1 ⟨rfl, hb⟩
      have HB := Lib.hid hb
      clear hb
      go_wp2_with fail
      refine (KV'.out _ (HS'.out.below HB.out)).mono ?_
      rintro _ w2 ⟨rfl, hb⟩
      have HR : Hid (Out2 w (opV kW a b) (opE kW a b) (.returned (.tuple #[.slice none 0 0, .int .i64 1])) w2) := by show Out2 _ _ _ _ _; rw [EV.out, EE.out]; exact Out2.bad (HB.out.trans (hb.mono HB.out.size))
      clear hb
      go_wp2
      go_ret2
      exact HR.out
    | true =>
      have KV' := Lib.hid (rValid_b b p' bl' off' cap' len' true hv')
      have HVB := Lib.hid (vl_iff.1 hv')
      have EV : Hid (swV (runs fun d => kW (cov a d) (cov b d)) = opV kW a b) := by show _ = _; unfold opV; rw [hv, hv']; rfl
      have EE : Hid (swE (runs fun d => kW (cov a d) (cov b d)) = opE kW a b) := by show _ = _; unfold opE; rw [hv, hv']; rfl
      clear hv hv' hS hS'
      go_enter Try.func20, Try.ntmps20
      go_wp2_with fail
      refine (KV.out _ HS.out).mono ?_
      rintro _ w1 ⟨rfl, hb⟩
      have HB := Lib.hid hb
      clear hb
      go_wp2_with fail
      refine (KV'.out _ (HS'.out.below HB.out)).mono ?_
      rintro _ w2 ⟨rfl, hb⟩
      have HB2 := Lib.hid (HB.out.trans (hb.mono HB.out.size))
      clear hb HB
      go_wp2_with fail
      refine (marks_any a p bl off cap len _ (HS.out.below HB2.out) HVA.out.2.1).mono ?_
      rintro _ w3 ⟨g, n, rfl, hn, hM, hg0, hg, hb⟩
      have HB3 := Lib.hid (HB2.out.trans (hb.mono HB2.out.size))
      have HM := Lib.hid hM
      have HG := Lib.hid hg
      have HG0 : Hid (w.heap.size ≤ g) := Nat.le_trans HB2.out.size hg0
      have HN := Lib.hid hn
      clear hM hg hb hg0 hn HB2
      go_wp2_with fail
      refine (marks_any b p' bl' off' cap' len' _ (HS'.out.below HB3.out) HVB.out.2.1).mono ?_
      rintro _ w4 ⟨g', n', rfl, hn', hM', hg0', hg', hb⟩
      have HB4 := Lib.hid (HB3.out.trans (hb.mono HB3.out.size))
      have HM4 := Lib.hid (HM.out.below hb HG.out)
      have HG4 : Hid (g < w4.heap.size) := Nat.lt_of_lt_of_le HG.out hb.size
      have HM' := Lib.hid hM'
      have HG' := Lib.hid hg'
      have HGG : Hid (g ≠ g') := by show _ ≠ _; have := HG.out; omega
      have HN' := Lib.hid hn'
      clear hM' hg' hb hg0' hn' HB3 HM HG
      have hn1 : n ≤ 36525 := by have := HN.out; omega
      have hnn : n' = n := by have := HN.out; have := HN'.out; omega
      subst hnn
      go_wp2_with fail
      go_loopg [8] n' (fun gg s8 wr => ∃ d : Nat, s8 = .int .i64 d ∧ d ≤ n' ∧ n' - d ≤ gg ∧ Hid (Mk wr g (fun t => if t < (d : Int) then kW (cov a t) (cov b t) else cov a t)) ∧ Hid (Mk wr g' (cov b)) ∧ Hid (RowKit.Below w.heap.size w wr) ∧ Hid (g < wr.heap.size ∧ g' < wr.heap.size))
      case atStart => exact ⟨0, rfl, by omega, by omega, HM4.out.congr' (fun k hk => by rw [if_neg (by omega)]), HM'.out, HB4.out, ⟨HG4.out, HG'.out⟩⟩
      case round =>
        obtain ⟨d, rfl, hd, hdg, HMr, HMr', HBr, HGr⟩ := hrel
        clear HM4 HM' HB4 HG4 HG' w4
        by_cases hlt : d < n'
        · have hltz : (d : Int) < (n' : Int) := by omega
          have hdn : d < 36525 := by omega
          obtain ⟨x, hx⟩ : ∃ x, x = cov a d := ⟨_, rfl⟩
          obtain ⟨y, hy⟩ : ∃ x, x = cov b d := ⟨_, rfl⟩
          have c1 := (HMr.out d hdn).1
          have c2 := (HMr'.out d hdn).1
          have c3 := (HMr.out d hdn).2
          simp only [] at c1
          rw [if_neg (by omega), ← hx] at c1
          rw [← hy] at c2
          have HMn : Hid (Mk (wr.setCell ⟨g, d, none⟩ (.bool (kW x y))) g (fun t => if t < ((d + 1 : Nat) : Int) then kW (cov a t) (cov b t) else cov a t)) := (HMr.out.set d hdn (kW x y)).congr (fun t => by
            show (if t = (d : Int) then _ else _) = _
            by_cases h : t = (d : Int)
            · rw [if_pos h, if_pos (by omega), h, hx, hy]
            · rw [if_neg h]
              by_cases h2 : t < (d : Int)
              · rw [if_pos h2, if_pos (by omega)]
              · rw [if_neg h2, if_neg (by omega)])
          have HMn' : Hid (Mk (wr.setCell ⟨g, d, none⟩ (.bool (kW x y))) g' (cov b)) := HMr'.out.other (fun h => HGG.out h.symm) _ _
          have HBn : Hid (RowKit.Below w.heap.size w (wr.setCell ⟨g, d, none⟩ (.bool (kW x y)))) := HBr.out.setCell (by show w.heap.size ≤ g; exact HG0.out) _
          have HGn : Hid (g < (wr.setCell ⟨g, d, none⟩ (.bool (kW x y))).heap.size ∧ g' < (wr.setCell ⟨g, d, none⟩ (.bool (kW x y))).heap.size) := by show _ ∧ _; rw [World.size_setCell]; exact HGr.out
          clear hx hy
          cases x with
          | false =>
            cases y with
            | false =>
              rw [show kW false false = false from rfl] at HMn HMn' HBn HGn
              go_wp2
              go_roundg (n' - (d + 1))
              case measure => omega
              case rel => exact ⟨d + 1, by go_num, by omega, by omega, HMn, HMn', HBn, HGn⟩
            | true =>
              rw [show kW false true = false from rfl] at HMn HMn' HBn HGn
              go_wp2
              go_roundg (n' - (d + 1))
              case measure => omega
              case rel => exact ⟨d + 1, by go_num, by omega, by omega, HMn, HMn', HBn, HGn⟩
          | true =>
            cases y with
            | false =>
              rw [show kW true false = true from rfl] at HMn HMn' HBn HGn
              go_wp2
              go_roundg (n' - (d + 1))
              case measure => omega
              case rel => exact ⟨d + 1, by go_num, by omega, by omega, HMn, HMn', HBn, HGn⟩
            | true =>
              rw [show kW true true = false from rfl] at HMn HMn' HBn HGn
              go_wp2
              go_roundg (n' - (d + 1))
              case measure => omega
              case rel => exact ⟨d + 1, by go_num, by omega, by omega, HMn, HMn', HBn, HGn⟩
        · have hltz : ¬ (d : Int) < (n' : Int) := by omega
          have hde : d = 36525 := by have := HN.out; omega
          have hMf : Mk wr g (fun t => kW (cov a t) (cov b t)) := HMr.out.congr' (fun k hk => by show (if (k : Int) < (d : Int) then _ else _) = _; rw [if_pos (by omega)])
          have KS := Lib.hid (set_any (fun t => kW (cov a t) (cov b t)) g n' HN.out wr hMf HGr.out.1)
          clear hMf hde
          go_wp2_with fail
          refine KS.out.mono ?_
          rintro e w5 hO
          have hO2 := hO.mono HBr.out
          rw [EV.out, EE.out] at hO2
          obtain ⟨pp, gb, ln, cp, rfl, hs, hb⟩ := hO2
          have HR : Hid (Out2 w (opV kW a b) (opE kW a b) (.returned (.tuple #[.slice pp ln cp, .int .i64 (opE kW a b)])) w5) := ⟨pp, gb, ln, cp, rfl, hs, hb⟩
          clear hO hs hb
          go_wp2
          go_ret2
          exact HR.out
end Go.Proofs.Ytomcngnfdflkkaa
