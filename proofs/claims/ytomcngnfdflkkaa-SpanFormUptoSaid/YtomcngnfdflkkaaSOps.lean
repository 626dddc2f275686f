/-
  Contracts of Union, Meet, Without and Normal.
-/
import Derived.Test.YtomcngnfdflkkaaSSweepW
namespace Go.Proofs.Ytomcngnfdflkkaa
open Go.RowKit Spn Go.Sort

def opV (kf : Bool → Bool → Bool) (a b : List (Int × Int)) : List (Int × Int) := if vl a && vl b then swV (runs fun d => kf (cov a d) (cov b d)) else []
def opE (kf : Bool → Bool → Bool) (a b : List (Int × Int)) : Int := if vl a && vl b then swE (runs fun d => kf (cov a d) (cov b d)) else 1
def noV (l : List (Int × Int)) : List (Int × Int) := if sts l then swV (runs (cov l)) else []
def noE (l : List (Int × Int)) : Int := if sts l then swE (runs (cov l)) else 1
def kU (x y : Bool) : Bool := x || y
def kM (x y : Bool) : Bool := x && y
def kW (x y : Bool) : Bool := x && !y
def kN (x _ : Bool) : Bool := x

theorem keepU : KeepIs 35 kU := by
  intro c d w
  cases c <;> cases d <;>
  · go_enter Try.func35, Try.ntmps35
    go_wp2
    go_ret
    exact ⟨rfl, Below.refl _ _⟩
theorem keepM : KeepIs 36 kM := by
  intro c d w
  cases c <;> cases d <;>
  · go_enter Try.func36, Try.ntmps36
    go_wp2
    go_ret
    exact ⟨rfl, Below.refl _ _⟩
theorem keepW : KeepIs 37 kW := by
  intro c d w
  cases c <;> cases d <;>
  · go_enter Try.func37, Try.ntmps37
    go_wp2
    go_ret
    exact ⟨rfl, Below.refl _ _⟩
theorem keepN : KeepIs 31 kN := by
  intro c d w
  cases c <;> cases d <;>
  · go_enter Try.func31, Try.ntmps31
    go_wp2
    go_ret
    exact ⟨rfl, Below.refl _ _⟩
theorem eU : ∀ args w, (callFunc 35 args).run Try.prog w = .ok (.enter 35 args) w := enters_of Try.func35 (by kernel_rfl) rfl
theorem eM : ∀ args w, (callFunc 36 args).run Try.prog w = .ok (.enter 36 args) w := enters_of Try.func36 (by kernel_rfl) rfl
theorem eW : ∀ args w, (callFunc 37 args).run Try.prog w = .ok (.enter 37 args) w := enters_of Try.func37 (by kernel_rfl) rfl
theorem eN : ∀ args w, (callFunc 31 args).run Try.prog w = .ok (.enter 31 args) w := enters_of Try.func31 (by kernel_rfl) rfl

theorem Out2.mono {w w0 w' : World} {l : List (Int × Int)} {er : Int} {e : Ending} (h : Out2 w l er e w') (hB : RowKit.Below w0.heap.size w0 w) : Out2 w0 l er e w' := by
  obtain ⟨p, b, len, cap, rfl, hs, hb⟩ := h
  exact ⟨p, b, len, cap, rfl, hs, hB.trans (hb.mono hB.size)⟩
theorem Out2.bad {w w' : World} {er : Int} (hB : RowKit.Below w.heap.size w w') : Out2 w [] er (.returned (.tuple #[.slice none 0 0, .int .i64 er])) w' := ⟨none, 0, 0, 0, rfl, Sl.nil _ _, hB⟩

set_option maxHeartbeats 1000000 in
set_option maxRecDepth 100000 in
theorem combine_any (kf : Bool → Bool → Bool) (hkf : kf false false = false) (g : Nat) (hg : KeepIs g kf) (eg : ∀ args w, (callFunc g args).run Try.prog w = .ok (.enter g args) w) (a b : List (Int × Int)) (p p' : Option Addr) (bl off cap len bl' off' cap' len' : Nat) (w : World) (hS : Sl w p bl off len a) (hS' : Sl w p' bl' off' len' b) :
    Calls Try.prog 34 #[.slice p len cap, .slice p' len' cap', .func (.func g) #[] #[]] w fun e w' => Out2 w (opV kf a b) (opE kf a b) e w' := by
  have HS := Lib.hid hS
  have HS' := Lib.hid hS'
  cases hv : vl a with
  | false =>
    have KV := Lib.hid (valid_b a p bl off cap len false hv)
    have EV : Hid (opV kf a b = []) := by show _ = _; unfold opV; rw [hv]; rfl
    have EE : Hid (opE kf a b = 1) := by show _ = _; unfold opE; rw [hv]; rfl
    clear hv hS hS' hg eg hkf
    go_enter Try.func34, Try.ntmps34
    go_wp2_with fail
    refine (KV.out _ HS.out).mono ?_
    rintro _ w1 ⟨rfl, hb⟩
    have HR : Hid (Out2 w (opV kf a b) (opE kf a b) (.returned (.tuple #[.slice none 0 0, .int .i64 1])) w1) := by show Out2 _ _ _ _ _; rw [EV.out, EE.out]; exact Out2.bad hb
    clear hb
    go_wp2
    go_ret2
    exact HR.out
  | true =>
    have KV := Lib.hid (valid_b a p bl off cap len true hv)
    have HVA := Lib.hid (vl_iff.1 hv)
    cases hv' : vl b with
    | false =>
      have KV' := Lib.hid (valid_b b p' bl' off' cap' len' false hv')
      have EV : Hid (opV kf a b = []) := by show _ = _; unfold opV; rw [hv, hv']; rfl
      have EE : Hid (opE kf a b = 1) := by show _ = _; unfold opE; rw [hv, hv']; rfl
      clear hv hv' hS hS' hg eg hkf
      go_enter Try.func34, Try.ntmps34
      go_wp2_with fail
      refine (KV.out _ HS.out).mono ?_
      rintro _ w1 ⟨rfl, hb⟩
      have HB := Lib.hid hb
      clear hb
      go_wp2_with fail
      refine (KV'.out _ (HS'.out.below HB.out)).mono ?_
      rintro _ w2 ⟨rfl, hb⟩
      have HR : Hid (Out2 w (opV kf a b) (opE kf a b) (.returned (.tuple #[.slice none 0 0, .int .i64 1])) w2) := by show Out2 _ _ _ _ _; rw [EV.out, EE.out]; exact Out2.bad (HB.out.trans (hb.mono HB.out.size))
      clear hb
      go_wp2
      go_ret2
      exact HR.out
    | true =>
      have KV' := Lib.hid (valid_b b p' bl' off' cap' len' true hv')
      have HVB := Lib.hid (vl_iff.1 hv')
      have EV : Hid (opV kf a b = swV (runs fun d => kf (cov a d) (cov b d))) := by show _ = _; unfold opV; rw [hv, hv']; rfl
      have EE : Hid (opE kf a b = swE (runs fun d => kf (cov a d) (cov b d))) := by show _ = _; unfold opE; rw [hv, hv']; rfl
      have KS := Lib.hid (fun w' (h : RowKit.Below w.heap.size w w') => sweep_any kf hkf g hg eg a b p p' bl off cap len bl' off' cap' len' w' (hS.below h) (hS'.below h) HVA.out.2.1 HVB.out.2.1 (by have := hS.1; have := hS'.1; have := HVA.out.1; have := HVB.out.1; omega))
      clear hv hv' hS hS' hg eg hkf
      go_enter Try.func34, Try.ntmps34
      go_wp2_with fail
      refine (KV.out _ HS.out).mono ?_
      rintro _ w1 ⟨rfl, hb⟩
      have HB := Lib.hid hb
      clear hb
      go_wp2_with fail
      refine (KV'.out _ (HS'.out.below HB.out)).mono ?_
      rintro _ w2 ⟨rfl, hb⟩
      have HB2 := Lib.hid (HB.out.trans (hb.mono HB.out.size))
      clear hb
      go_wp2_with fail
      refine (KS.out _ HB2.out).mono ?_
      rintro e w3 hO
      have hO2 := hO.mono HB2.out
      rw [← EV.out, ← EE.out] at hO2
      obtain ⟨pp, gb, ln, cp, rfl, hs, hb⟩ := hO2
      have HR : Hid (Out2 w (opV kf a b) (opE kf a b) (.returned (.tuple #[.slice pp ln cp, .int .i64 (opE kf a b)])) w3) := ⟨pp, gb, ln, cp, rfl, hs, hb⟩
      clear hO hs hb
      go_wp2
      go_ret2
      exact HR.out

set_option maxHeartbeats 1000000 in
theorem Union_any (a b : List (Int × Int)) (p p' : Option Addr) (bl off cap len bl' off' cap' len' : Nat) (w : World) (hS : Sl w p bl off len a) (hS' : Sl w p' bl' off' len' b) :
    Calls Try.prog 15 #[.slice p len cap, .slice p' len' cap'] w fun e w' => Out2 w (opV kU a b) (opE kU a b) e w' := by
  have K := Lib.hid (combine_any kU rfl 35 keepU eU a b p p' bl off cap len bl' off' cap' len' w hS hS')
  clear hS hS'
  go_enter Try.func15, Try.ntmps15
  go_wp2_with fail
  refine K.out.mono ?_
  rintro e w1 ⟨pp, gb, ln, cp, rfl, hs, hb⟩
  have HR : Hid (Out2 w (opV kU a b) (opE kU a b) (.returned (.tuple #[.slice pp ln cp, .int .i64 (opE kU a b)])) w1) := ⟨pp, gb, ln, cp, rfl, hs, hb⟩
  clear hs hb
  go_wp2
  go_ret2
  exact HR.out

set_option maxHeartbeats 1000000 in
theorem Meet_any (a b : List (Int × Int)) (p p' : Option Addr) (bl off cap len bl' off' cap' len' : Nat) (w : World) (hS : Sl w p bl off len a) (hS' : Sl w p' bl' off' len' b) :
    Calls Try.prog 17 #[.slice p len cap, .slice p' len' cap'] w fun e w' => Out2 w (opV kM a b) (opE kM a b) e w' := by
  have K := Lib.hid (combine_any kM rfl 36 keepM eM a b p p' bl off cap len bl' off' cap' len' w hS hS')
  clear hS hS'
  go_enter Try.func17, Try.ntmps17
  go_wp2_with fail
  refine K.out.mono ?_
  rintro e w1 ⟨pp, gb, ln, cp, rfl, hs, hb⟩
  have HR : Hid (Out2 w (opV kM a b) (opE kM a b) (.returned (.tuple #[.slice pp ln cp, .int .i64 (opE kM a b)])) w1) := ⟨pp, gb, ln, cp, rfl, hs, hb⟩
  clear hs hb
  go_wp2
  go_ret2
  exact HR.out

set_option maxHeartbeats 1000000 in
theorem Without_any (a b : List (Int × Int)) (p p' : Option Addr) (bl off cap len bl' off' cap' len' : Nat) (w : World) (hS : Sl w p bl off len a) (hS' : Sl w p' bl' off' len' b) :
    Calls Try.prog 19 #[.slice p len cap, .slice p' len' cap'] w fun e w' => Out2 w (opV kW a b) (opE kW a b) e w' := by
  have K := Lib.hid (combine_any kW rfl 37 keepW eW a b p p' bl off cap len bl' off' cap' len' w hS hS')
  clear hS hS'
  go_enter Try.func19, Try.ntmps19
  go_wp2_with fail
  refine K.out.mono ?_
  rintro e w1 ⟨pp, gb, ln, cp, rfl, hs, hb⟩
  have HR : Hid (Out2 w (opV kW a b) (opE kW a b) (.returned (.tuple #[.slice pp ln cp, .int .i64 (opE kW a b)])) w1) := ⟨pp, gb, ln, cp, rfl, hs, hb⟩
  clear hs hb
  go_wp2
  go_ret2
  exact HR.out

set_option maxHeartbeats 1000000 in
set_option maxRecDepth 100000 in
theorem Normal_any (l : List (Int × Int)) (p : Option Addr) (b off cap len : Nat) (w : World) (hS : Sl w p b off len l) (hn : len ≤ 1099511627776) :
    Calls Try.prog 12 #[.slice p len cap] w fun e w' => Out2 w (noV l) (noE l) e w' := by
  have HS := Lib.hid hS
  have HL := Lib.hid hS.1
  have KS := Lib.hid (fun (h : ∀ s, s ∈ l → st s = true) w' (hB : RowKit.Below w.heap.size w w') => sweep_any kN rfl 31 keepN eN l [] p none b off cap len 0 0 0 0 w' (hS.below hB) (Sl.nil _ _) h (fun s h => by cases h) (by omega))
  clear hS
  go_enter Try.func12, Try.ntmps12
  go_wp2_with fail
  go_loopg [8] len (fun g s8 wr => ∃ (k : Nat), s8 = .int .i64 k ∧ k ≤ len ∧ len - k ≤ g ∧ Hid (sts (l.take k) = true) ∧ Hid (RowKit.Below w.heap.size w wr))
  case atStart => exact ⟨0, rfl, by omega, by omega, rfl, Below.refl _ _⟩
  case round =>
    obtain ⟨k, rfl, hk, hkg, HT, HB⟩ := hrel
    by_cases hlt : k < len
    · have hltz : (k : Int) < (len : Int) := by omega
      have hp1 := HS.out.2.1 (by omega)
      have hkl : k < l.length := by rw [HL.out]; exact hlt
      have HS2 := Lib.hid (HS.out.below HB.out)
      obtain ⟨x, hx⟩ : ∃ x, x = l[k].1 := ⟨_, rfl⟩
      obtain ⟨y, hy⟩ : ∃ x, x = l[k].2 := ⟨_, rfl⟩
      have c1 := (HS2.out.2.2.1 k hkl).1
      have c2 := (HS2.out.2.2.1 k hkl).2
      rw [← hx] at c1
      rw [← hy] at c2
      have hk2 : l[k] = (x, y) := Prod.ext hx.symm hy.symm
      clear hx hy
      subst hp1
      cases hst : st (x, y) with
      | false =>
        have KST := Lib.hid (stretch_b x y false hst)
        have hsb : sts l = false := sts_bad hkl (by rw [hk2]; exact hst)
        have EV : Hid (noV l = []) := by show _ = _; unfold noV; rw [hsb]; rfl
        have EE : Hid (noE l = 1) := by show _ = _; unfold noE; rw [hsb]; rfl
        clear hst hk2 hsb
        go_wp2_with fail
        refine (KST.out _).mono ?_
        rintro _ w1 ⟨rfl, hb⟩
        have HR : Hid (∀ W, RowKit.Below w1.heap.size w1 W → Out2 w (noV l) (noE l) (.returned (.tuple #[.slice none 0 0, .int .i64 1])) W) := fun W hW => by
          rw [EV.out, EE.out]
          have h1 : RowKit.Below w.heap.size w w1 := by first | exact HB.out.trans (hb.mono HB.out.size) | exact (HB.out.alloc HB.out.size _).trans (hb.mono (by have := HB.out.size; simp; omega))
          exact Out2.bad (h1.trans (hW.mono h1.size))
        clear hb
        go_wp2
        go_ret2
        exact HR.out _ (Below.refl _ _)
      | true =>
        have KST := Lib.hid (stretch_b x y true hst)
        have HTn : Hid (sts (l.take (k + 1)) = true) := sts_take hkl HT.out (by rw [hk2]; exact hst)
        clear hst hk2
        go_wp2_with fail
        refine (KST.out _).mono ?_
        rintro _ w1 ⟨rfl, hb⟩
        have HB2 : Hid (RowKit.Below w.heap.size w w1) := by first | exact HB.out.trans (hb.mono HB.out.size) | exact (HB.out.alloc HB.out.size _).trans (hb.mono (by have := HB.out.size; simp; omega))
        clear hb
        go_wp2
        go_roundg (len - (k + 1))
        case measure => omega
        case rel => exact ⟨k + 1, by go_num, by omega, by omega, HTn, HB2.out⟩
    · have hltz : ¬ (k : Int) < (len : Int) := by omega
      have hsl : sts l = true := by have := HT.out; rw [List.take_of_length_le (by have := HL.out; omega)] at this; exact this
      have K := Lib.hid (KS.out (sts_iff.1 hsl) wr HB.out)
      have hr : (runs fun d => kN (cov l d) (cov [] d)) = runs (cov l) := runs_congr fun d => rfl
      have EV : Hid (swV (runs fun d => kN (cov l d) (cov [] d)) = noV l) := by show _ = _; unfold noV; rw [hsl, hr]; rfl
      have EE : Hid (swE (runs fun d => kN (cov l d) (cov [] d)) = noE l) := by show _ = _; unfold noE; rw [hsl, hr]; rfl
      clear hsl hr
      go_wp2_with fail
      refine K.out.mono ?_
      rintro e w1 hO
      have hO2 := hO.mono HB.out
      rw [EV.out, EE.out] at hO2
      obtain ⟨pp, gb, ln, cp, rfl, hs, hb⟩ := hO2
      have HR : Hid (Out2 w (noV l) (noE l) (.returned (.tuple #[.slice pp ln cp, .int .i64 (noE l)])) w1) := ⟨pp, gb, ln, cp, rfl, hs, hb⟩
      clear hO hs hb
      go_wp2
      go_ret2
      exact HR.out
end Go.Proofs.Ytomcngnfdflkkaa
