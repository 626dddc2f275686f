/-
  Contract of the reference's Starts.
-/
import Derived.Test.YtmjdolgcgbiajaaPValidR
import Derived.Test.YtmjdolgcgbiajaaPStr
import Derived.Test.YtmjdolgcgbiajaaPOwn
namespace Go.Proofs.Ytmjdolgcgbiajaa
open Go.RowKit Go.Shelf Pw

/-- A slice reads as a list of integers. -/
structure SlI (w : World) (p : Option Addr) (b len : Nat) (l : List Int) : Prop where
  ln : l.length = len
  ptr : 0 < len → p = some ⟨b, 0, none⟩
  cells : ∀ (k : Nat) (h : k < l.length), w.cell? ⟨b, k, none⟩ = some (.int .i64 l[k])
  lt : 0 < len → b < w.heap.size
theorem SlI.below {w w1 : World} {p : Option Addr} {b len : Nat} {l : List Int} (h : SlI w p b len l) (hB : RowKit.Below w.heap.size w w1) : SlI w1 p b len l :=
  ⟨h.ln, h.ptr, fun k hk => (hB.cell (p := ⟨b, k, none⟩) (h.lt (by have := h.ln; omega))).trans (h.cells k hk), fun x => Nat.lt_of_lt_of_le (h.lt x) hB.size⟩
theorem OwnI.reads {w : World} {base : Nat} {v : Value} {l : List Int} (h : OwnI w base v l) : ∃ p b cap, v = .slice p l.length cap ∧ SlI w p b l.length l := by
  rcases h.cells with ⟨rfl, rfl⟩ | ⟨g, cap, rfl, hg, hlt, cl⟩
  · exact ⟨_, 0, 0, rfl, rfl, fun h => by simp at h, fun k h => by simp at h, fun h => by simp at h⟩
  · exact ⟨_, g, cap, rfl, rfl, fun _ => rfl, fun k hk => cl _ _ (flI_at l k hk), fun _ => hlt⟩

/-- The pieces before an index begin before a place, the others there or behind it. -/
def Cut (l : List RP) (i : Nat) (X : Int) : Prop := (∀ (j : Nat) (h : j < l.length), j < i → l[j].f < X) ∧ (∀ (j : Nat) (h : j < l.length), i ≤ j → X ≤ l[j].f)
theorem Cut.start {l : List RP} (h : VR l) : Cut l 0 0 := ⟨fun j _ hj => by omega, fun j hj _ => (h.wl (List.getElem_mem hj)).2.1⟩
theorem Cut.up {l : List RP} {i : Nat} {X x : Int} (hv : VR l) (h : Cut l i X) (hx : X ≤ x) (hi : ∀ h : i < l.length, x ≤ l[i].f) : Cut l i x :=
  ⟨fun j hj hji => by have := h.1 j hj hji; omega, fun j hj hij => by
    have := hi (by omega)
    by_cases e : j = i
    · subst e; exact this
    · have := hv.sorted j i hj (by omega); omega⟩
theorem Cut.no {l : List RP} {i : Nat} {X x : Int} (h : Cut l i X) (h' : Cut l i x) : ∀ y, X ≤ y → y < x → fs (AA l) y = false := fun y a b => fs_false.2 fun p hp => by
  obtain ⟨q, hq, rfl⟩ := List.mem_map.1 hp
  obtain ⟨j, hj, rfl⟩ := List.getElem_of_mem hq
  show l[j].f ≠ y
  by_cases hij : j < i
  · have := h.1 j hj hij; omega
  · have := h'.2 j hj (by omega); omega
/-- As a loop that passes the pieces at a place goes. -/
def Mid (l : List RP) (i : Nat) (x : Int) : Prop := (∀ (j : Nat) (h : j < l.length), j < i → l[j].f ≤ x) ∧ (∀ (j : Nat) (h : j < l.length), i ≤ j → x ≤ l[j].f)
theorem Cut.mid {l : List RP} {i : Nat} {x : Int} (h : Cut l i x) : Mid l i x := ⟨fun j hj hji => by have := h.1 j hj hji; omega, h.2⟩
theorem Mid.step {l : List RP} {i : Nat} {x : Int} (hv : VR l) (h : Mid l i x) (hi : i < l.length) (e : l[i].f = x) : Mid l (i + 1) x :=
  ⟨fun j hj hji => by
    by_cases q : j = i
    · subst q; omega
    · exact h.1 j hj (by omega),
   fun j hj hij => by have := hv.sorted j i hj (by omega); omega⟩
theorem Mid.out {l : List RP} {i : Nat} {x : Int} (hv : VR l) (h : Mid l i x) (hi : ∀ h : i < l.length, l[i].f ≠ x) : Cut l i (x + 1) :=
  ⟨fun j hj hji => by have := h.1 j hj hji; omega, fun j hj hij => by
    have h1 := h.2 i (by omega) (Nat.le_refl _)
    have h2 := hi (by omega)
    by_cases q : j = i
    · subst q; omega
    · have := hv.sorted j i hj (by omega); omega⟩
theorem ps_next {f g : List RP} {i k : Nat} {X x : Nat} (hf : Cut f i X) (hf' : Cut f i x) (hg : Cut g k X) (hg' : Cut g k x) (hX : X ≤ x) (hx : isS (AA f) (AA g) x = true) :
    ps (isS (AA f) (AA g)) (x + 1) = ps (isS (AA f) (AA g)) X ++ [(x : Int)] := by
  rw [ps_one hx (by omega) fun y a b => by omega, ps_skip (m := X) hX fun y a b => isS_false.2 ⟨hf.no hf' y a b, hg.no hg' y a b⟩]
theorem ps_end {f g : List RP} {X : Nat} (hf : Cut f f.length X) (hg : Cut g g.length X) (hX : X ≤ 100001) : ps (isS (AA f) (AA g)) X = ps (isS (AA f) (AA g)) 100001 := by
  refine (ps_skip (m := X) hX fun y a b => ?_).symm
  refine isS_false.2 ⟨hf.no (x := y + 1) ⟨fun j hj hji => ?_, fun j hj hij => by omega⟩ y a (by omega), hg.no (x := y + 1) ⟨fun j hj hji => ?_, fun j hj hij => by omega⟩ y a (by omega)⟩
  · have := hf.1 j hj hji; omega
  · have := hg.1 j hj hji; omega
theorem fs_at {l : List RP} {k : Nat} {x : Int} (h : k < l.length) (e : x = l[k].f) : fs (AA l) x = true := fs_true.2 ⟨toAP l[k], List.mem_map.2 ⟨_, List.getElem_mem h, rfl⟩, e.symm⟩
/-- A slice of integers is returned. -/
def OutI (w : World) (l : List Int) (e : Ending) (w' : World) : Prop := ∃ p b cap, e = .returned (.slice p l.length cap) ∧ SlI w' p b l.length l ∧ RowKit.Below w.heap.size w w'

set_option maxRecDepth 100000 in
set_option maxHeartbeats 1000000 in
theorem rstarts_any (f g : List RP) (pf pg : Option Addr) (bf of cf lf bg og cg lg : Nat) (w : World) (hS : SlP w pf bf of lf f) (hS' : SlP w pg bg og lg g) (hf : VR f) (hg : VR g) :
    Calls Try.prog 43 #[.slice pf lf cf, .slice pg lg cg] w fun e w' => OutI w (ps (isS (AA f) (AA g)) 100001) e w' := by
  have HS := Lib.hid hS
  have HS' := Lib.hid hS'
  have HL := Lib.hid hS.ln
  have HL' := Lib.hid hS'.ln
  have HVf := Lib.hid hf
  have HVg := Lib.hid hg
  have hl := hf.2.1
  have hl' := hg.2.1
  have hp := hS.ptr (by have := hS.ln; have := hf.1; omega)
  have hp' := hS'.ptr (by have := hS'.ln; have := hg.1; omega)
  have hlf : lf ≤ 64 := by have := hS.ln; omega
  have hlg : lg ≤ 64 := by have := hS'.ln; omega
  subst hp
  subst hp'
  obtain ⟨P, hP⟩ : ∃ P, P = isS (AA f) (AA g) := ⟨_, rfl⟩
  obtain ⟨N, hN⟩ : ∃ N, N = 100001 := ⟨_, rfl⟩
  rw [← hP, ← hN]
  have HP := Lib.hid hP
  have HN := Lib.hid hN
  clear hS hS' hf hg hl hl' hP hN
  go_enter Try.func43, Try.ntmps43
  go_wp2_with fail
  go_loopg [5, 6, 7] (lf + lg) (fun q s5 s6 s7 wr => ∃ i k X : Nat, s6 = .int .i64 i ∧ s7 = .int .i64 k ∧ i ≤ lf ∧ k ≤ lg ∧ X ≤ 100001 ∧ (lf - i) + (lg - k) ≤ q ∧ Hid (RowKit.Below w.heap.size w wr) ∧ Hid (OwnI wr w.heap.size s5 (ps P X)) ∧ Hid (Cut f i X) ∧ Hid (Cut g k X))
  case atStart => exact ⟨0, 0, 0, rfl, rfl, by omega, by omega, by omega, by omega, Below.refl _ _, OwnI.empty _ _, Cut.start HVf.out, Cut.start HVg.out⟩
  case round =>
    obtain ⟨i, k, X, rfl, rfl, hi, hk, hX, hq, HB, HO, HCf, HCg⟩ := hrel
    by_cases hif : i < lf
    · have hifz : (i : Int) < (lf : Int) := by omega
      have hil : i < f.length := by rw [HL.out]; exact hif
      have x0 := ((HS.out.below HB.out).cells i hil).1
      have xb := (HVf.out.wl (List.getElem_mem hil)).2
      have xX := HCf.out.2 i hil (Nat.le_refl _)
      have XF : Hid (∀ h : i < f.length, f[i].f = f[i].f) := fun _ => rfl
      obtain ⟨x, hx⟩ : ∃ x : Nat, (x : Int) = f[i].f := ⟨f[i].f.toNat, by omega⟩
      rw [← hx] at x0 xb xX
      have HX := Lib.hid hx
      clear hx XF
      by_cases hkg : k < lg
      · have hkgz : (k : Int) < (lg : Int) := by omega
        have hkl : k < g.length := by rw [HL'.out]; exact hkg
        have y0 := ((HS'.out.below HB.out).cells k hkl).1
        have yb := (HVg.out.wl (List.getElem_mem hkl)).2
        have yX := HCg.out.2 k hkl (Nat.le_refl _)
        obtain ⟨y, hy⟩ : ∃ y : Nat, (y : Int) = g[k].f := ⟨g[k].f.toNat, by omega⟩
        rw [← hy] at y0 yb yX
        have HY := Lib.hid hy
        clear hy
        by_cases hyx : y < x
        · have hyxz : (y : Int) < (x : Int) := by omega
          have KF : Hid (Cut f i y) := HCf.out.up HVf.out (by omega) fun h => by rw [← HX.out]; omega
          have KG : Hid (Cut g k y) := HCg.out.up HVg.out (by omega) fun h => by rw [← HY.out]; omega
          have HT : Hid (P y = true) := by show _ = _; rw [HP.out]; unfold isS; rw [fs_at hkl HY.out, Bool.or_true]
          have hpr : Hid ((∀ i', Cut f i' (y + 1) → i ≤ i' → True) ∧ (∀ k', k ≤ k' → Cut g k' ((y : Int) + 1) → k < k')) := ⟨fun _ _ _ => trivial, fun k' hk' hc => by
            apply Decidable.byContradiction; intro hn; obtain rfl : k' = k := by omega
            have := hc.2 _ hkl (Nat.le_refl _); rw [← HY.out] at this; omega⟩
          go_wp2_with fail
          rename World => wo
          go_loopg [6] lf (fun q s6 wr => wr = wo ∧ ∃ i' : Nat, s6 = .int .i64 i' ∧ i ≤ i' ∧ i' ≤ lf ∧ lf - i' ≤ q ∧ Hid (Mid f i' y))
          case atStart => exact ⟨rfl, i, rfl, by omega, by omega, by omega, KF.out.mid⟩
          case round =>
            obtain ⟨rfl, i', rfl, hi1, hi2, hiq, HM⟩ := hrel
            by_cases hlt : i' < lf
            · have hltz : (i' : Int) < (lf : Int) := by omega
              have hil' : i' < f.length := by rw [HL.out]; exact hlt
              have z0 := ((HS.out.below HB.out).cells i' hil').1
              obtain ⟨z, hz⟩ : ∃ z, z = f[i'].f := ⟨_, rfl⟩
              rw [← hz] at z0
              have HZ := Lib.hid hz
              clear hz
              by_cases hzx : z = (y : Int)
              · have HM2 := Lib.hid (HM.out.step HVf.out hil' (by rw [← HZ.out]; exact hzx))
                subst hzx
                go_wp2_with fail
                go_roundg (lf - (i' + 1))
                case measure => omega
                case rel => exact ⟨rfl, i' + 1, by go_num, by omega, by omega, by omega, HM2.out⟩
              · have KF2 := Lib.hid (HM.out.out HVf.out fun h => by rw [← HZ.out]; exact hzx)
                have hzb : (z == (y : Int)) = false := by simpa using hzx
                go_wp2_with fail
                rename World => wo
                go_loopg [7] lg (fun q s7 wr => wr = wo ∧ ∃ k' : Nat, s7 = .int .i64 k' ∧ k ≤ k' ∧ k' ≤ lg ∧ lg - k' ≤ q ∧ Hid (Mid g k' y))
                case atStart => exact ⟨rfl, k, rfl, by omega, by omega, by omega, KG.out.mid⟩
                case round =>
                  obtain ⟨rfl, k', rfl, hk1, hk2, hkq, HM'⟩ := hrel
                  by_cases hltk : k' < lg
                  · have hltkz : (k' : Int) < (lg : Int) := by omega
                    have hkl' : k' < g.length := by rw [HL'.out]; exact hltk
                    have z1 := ((HS'.out.below HB.out).cells k' hkl').1
                    obtain ⟨u, hu⟩ : ∃ u, u = g[k'].f := ⟨_, rfl⟩
                    rw [← hu] at z1
                    have HU := Lib.hid hu
                    clear hu
                    by_cases hux : u = (y : Int)
                    · have HM2' := Lib.hid (HM'.out.step HVg.out hkl' (by rw [← HU.out]; exact hux))
                      subst hux
                      go_wp2_with fail
                      go_roundg (lg - (k' + 1))
                      case measure => omega
                      case rel => exact ⟨rfl, k' + 1, by go_num, by omega, by omega, by omega, HM2'.out⟩
                    · have KG2 := Lib.hid (HM'.out.out HVg.out fun h => by rw [← HU.out]; exact hux)
                      have huxb : (u == (y : Int)) = false := by simpa using hux
                      have hpr' := (hpr.out.2 k' hk1 KG2.out)
                      go_wp2_with (first | (at_builtin; refine list_appI rfl _ _ rfl w.heap.size _ _ rfl (HO.out.alloc _) _ 1 (y : Int) rfl (OneI.new _ _ _) (by have := ps_len (P := P) (n := X); omega) (by have := HB.out.size; simp; omega) ?_; intro v5 W5 own5 grow5) | fail)
                      have HB5 : Hid (RowKit.Below w.heap.size w W5) := (HB.out.alloc HB.out.size _).grown grow5 (by have := HB.out.size; simp; omega) HO.out.block
                      have HO5 : Hid (OwnI W5 w.heap.size v5 (ps P (y + 1))) := by show OwnI _ _ _ _; rw [HP.out, ps_next HCf.out KF.out HCg.out KG.out (by omega) (by rw [← HP.out]; exact HT.out), ← HP.out]; exact own5
                      clear own5 grow5
                      go_wp2
                      go_roundg ((lf - i') + (lg - k'))
                      case measure => omega
                      case rel => exact ⟨i', k', y + 1, rfl, rfl, by omega, by omega, by omega, by omega, HB5.out, HO5.out, by rw [show ((y + 1 : Nat) : Int) = (y : Int) + 1 by omega]; exact KF2.out, by rw [show ((y + 1 : Nat) : Int) = (y : Int) + 1 by omega]; exact KG2.out⟩
                  · have hltkz : ¬ (k' : Int) < (lg : Int) := by omega
                    have KG2 := Lib.hid (HM'.out.out HVg.out fun h => by have := HL'.out; omega)
                    have hpr' := (hpr.out.2 k' hk1 KG2.out)
                    go_wp2_with (first | (at_builtin; refine list_appI rfl _ _ rfl w.heap.size _ _ rfl (HO.out.alloc _) _ 1 (y : Int) rfl (OneI.new _ _ _) (by have := ps_len (P := P) (n := X); omega) (by have := HB.out.size; simp; omega) ?_; intro v5 W5 own5 grow5) | fail)
                    have HB5 : Hid (RowKit.Below w.heap.size w W5) := (HB.out.alloc HB.out.size _).grown grow5 (by have := HB.out.size; simp; omega) HO.out.block
                    have HO5 : Hid (OwnI W5 w.heap.size v5 (ps P (y + 1))) := by show OwnI _ _ _ _; rw [HP.out, ps_next HCf.out KF.out HCg.out KG.out (by omega) (by rw [← HP.out]; exact HT.out), ← HP.out]; exact own5
                    clear own5 grow5
                    go_wp2
                    go_roundg ((lf - i') + (lg - k'))
                    case measure => omega
                    case rel => exact ⟨i', k', y + 1, rfl, rfl, by omega, by omega, by omega, by omega, HB5.out, HO5.out, by rw [show ((y + 1 : Nat) : Int) = (y : Int) + 1 by omega]; exact KF2.out, by rw [show ((y + 1 : Nat) : Int) = (y : Int) + 1 by omega]; exact KG2.out⟩
            · have hltz : ¬ (i' : Int) < (lf : Int) := by omega
              have KF2 := Lib.hid (HM.out.out HVf.out fun h => by have := HL.out; omega)
              go_wp2_with fail
              rename World => wo
              go_loopg [7] lg (fun q s7 wr => wr = wo ∧ ∃ k' : Nat, s7 = .int .i64 k' ∧ k ≤ k' ∧ k' ≤ lg ∧ lg - k' ≤ q ∧ Hid (Mid g k' y))
              case atStart => exact ⟨rfl, k, rfl, by omega, by omega, by omega, KG.out.mid⟩
              case round =>
                obtain ⟨rfl, k', rfl, hk1, hk2, hkq, HM'⟩ := hrel
                by_cases hltk : k' < lg
                · have hltkz : (k' : Int) < (lg : Int) := by omega
                  have hkl' : k' < g.length := by rw [HL'.out]; exact hltk
                  have z1 := ((HS'.out.below HB.out).cells k' hkl').1
                  obtain ⟨u, hu⟩ : ∃ u, u = g[k'].f := ⟨_, rfl⟩
                  rw [← hu] at z1
                  have HU := Lib.hid hu
                  clear hu
                  by_cases hux : u = (y : Int)
                  · have HM2' := Lib.hid (HM'.out.step HVg.out hkl' (by rw [← HU.out]; exact hux))
                    subst hux
                    go_wp2_with fail
                    go_roundg (lg - (k' + 1))
                    case measure => omega
                    case rel => exact ⟨rfl, k' + 1, by go_num, by omega, by omega, by omega, HM2'.out⟩
                  · have KG2 := Lib.hid (HM'.out.out HVg.out fun h => by rw [← HU.out]; exact hux)
                    have huxb : (u == (y : Int)) = false := by simpa using hux
                    have hpr' := (hpr.out.2 k' hk1 KG2.out)
                    go_wp2_with (first | (at_builtin; refine list_appI rfl _ _ rfl w.heap.size _ _ rfl (HO.out.alloc _) _ 1 (y : Int) rfl (OneI.new _ _ _) (by have := ps_len (P := P) (n := X); omega) (by have := HB.out.size; simp; omega) ?_; intro v5 W5 own5 grow5) | fail)
                    have HB5 : Hid (RowKit.Below w.heap.size w W5) := (HB.out.alloc HB.out.size _).grown grow5 (by have := HB.out.size; simp; omega) HO.out.block
                    have HO5 : Hid (OwnI W5 w.heap.size v5 (ps P (y + 1))) := by show OwnI _ _ _ _; rw [HP.out, ps_next HCf.out KF.out HCg.out KG.out (by omega) (by rw [← HP.out]; exact HT.out), ← HP.out]; exact own5
                    clear own5 grow5
                    go_wp2
                    go_roundg ((lf - i') + (lg - k'))
                    case measure => omega
                    case rel => exact ⟨i', k', y + 1, rfl, rfl, by omega, by omega, by omega, by omega, HB5.out, HO5.out, by rw [show ((y + 1 : Nat) : Int) = (y : Int) + 1 by omega]; exact KF2.out, by rw [show ((y + 1 : Nat) : Int) = (y : Int) + 1 by omega]; exact KG2.out⟩
                · have hltkz : ¬ (k' : Int) < (lg : Int) := by omega
                  have KG2 := Lib.hid (HM'.out.out HVg.out fun h => by have := HL'.out; omega)
                  have hpr' := (hpr.out.2 k' hk1 KG2.out)
                  go_wp2_with (first | (at_builtin; refine list_appI rfl _ _ rfl w.heap.size _ _ rfl (HO.out.alloc _) _ 1 (y : Int) rfl (OneI.new _ _ _) (by have := ps_len (P := P) (n := X); omega) (by have := HB.out.size; simp; omega) ?_; intro v5 W5 own5 grow5) | fail)
                  have HB5 : Hid (RowKit.Below w.heap.size w W5) := (HB.out.alloc HB.out.size _).grown grow5 (by have := HB.out.size; simp; omega) HO.out.block
                  have HO5 : Hid (OwnI W5 w.heap.size v5 (ps P (y + 1))) := by show OwnI _ _ _ _; rw [HP.out, ps_next HCf.out KF.out HCg.out KG.out (by omega) (by rw [← HP.out]; exact HT.out), ← HP.out]; exact own5
                  clear own5 grow5
                  go_wp2
                  go_roundg ((lf - i') + (lg - k'))
                  case measure => omega
                  case rel => exact ⟨i', k', y + 1, rfl, rfl, by omega, by omega, by omega, by omega, HB5.out, HO5.out, by rw [show ((y + 1 : Nat) : Int) = (y : Int) + 1 by omega]; exact KF2.out, by rw [show ((y + 1 : Nat) : Int) = (y : Int) + 1 by omega]; exact KG2.out⟩
        · have hyxz : ¬ (y : Int) < (x : Int) := by omega
          have KF : Hid (Cut f i x) := HCf.out.up HVf.out (by omega) fun h => by rw [← HX.out]; omega
          have KG : Hid (Cut g k x) := HCg.out.up HVg.out (by omega) fun h => by rw [← HY.out]; omega
          have HT : Hid (P x = true) := by show _ = _; rw [HP.out]; unfold isS; rw [fs_at hil HX.out, Bool.true_or]
          have hpr : Hid (∀ i', i ≤ i' → Cut f i' ((x : Int) + 1) → i < i') := fun i' hi' hc => by
            apply Decidable.byContradiction; intro hn; obtain rfl : i' = i := by omega
            have := hc.2 _ hil (Nat.le_refl _); rw [← HX.out] at this; omega
          go_wp2_with fail
          rename World => wo
          go_loopg [6] lf (fun q s6 wr => wr = wo ∧ ∃ i' : Nat, s6 = .int .i64 i' ∧ i ≤ i' ∧ i' ≤ lf ∧ lf - i' ≤ q ∧ Hid (Mid f i' x))
          case atStart => exact ⟨rfl, i, rfl, by omega, by omega, by omega, KF.out.mid⟩
          case round =>
            obtain ⟨rfl, i', rfl, hi1, hi2, hiq, HM⟩ := hrel
            by_cases hlt : i' < lf
            · have hltz : (i' : Int) < (lf : Int) := by omega
              have hil' : i' < f.length := by rw [HL.out]; exact hlt
              have z0 := ((HS.out.below HB.out).cells i' hil').1
              obtain ⟨z, hz⟩ : ∃ z, z = f[i'].f := ⟨_, rfl⟩
              rw [← hz] at z0
              have HZ := Lib.hid hz
              clear hz
              by_cases hzx : z = (x : Int)
              · have HM2 := Lib.hid (HM.out.step HVf.out hil' (by rw [← HZ.out]; exact hzx))
                subst hzx
                go_wp2_with fail
                go_roundg (lf - (i' + 1))
                case measure => omega
                case rel => exact ⟨rfl, i' + 1, by go_num, by omega, by omega, by omega, HM2.out⟩
              · have KF2 := Lib.hid (HM.out.out HVf.out fun h => by rw [← HZ.out]; exact hzx)
                have hzb : (z == (x : Int)) = false := by simpa using hzx
                go_wp2_with fail
                rename World => wo
                go_loopg [7] lg (fun q s7 wr => wr = wo ∧ ∃ k' : Nat, s7 = .int .i64 k' ∧ k ≤ k' ∧ k' ≤ lg ∧ lg - k' ≤ q ∧ Hid (Mid g k' x))
                case atStart => exact ⟨rfl, k, rfl, by omega, by omega, by omega, KG.out.mid⟩
                case round =>
                  obtain ⟨rfl, k', rfl, hk1, hk2, hkq, HM'⟩ := hrel
                  by_cases hltk : k' < lg
                  · have hltkz : (k' : Int) < (lg : Int) := by omega
                    have hkl' : k' < g.length := by rw [HL'.out]; exact hltk
                    have z1 := ((HS'.out.below HB.out).cells k' hkl').1
                    obtain ⟨u, hu⟩ : ∃ u, u = g[k'].f := ⟨_, rfl⟩
                    rw [← hu] at z1
                    have HU := Lib.hid hu
                    clear hu
                    by_cases hux : u = (x : Int)
                    · have HM2' := Lib.hid (HM'.out.step HVg.out hkl' (by rw [← HU.out]; exact hux))
                      subst hux
                      go_wp2_with fail
                      go_roundg (lg - (k' + 1))
                      case measure => omega
                      case rel => exact ⟨rfl, k' + 1, by go_num, by omega, by omega, by omega, HM2'.out⟩
                    · have KG2 := Lib.hid (HM'.out.out HVg.out fun h => by rw [← HU.out]; exact hux)
                      have huxb : (u == (x : Int)) = false := by simpa using hux
                      have hpr' := (hpr.out i' hi1 KF2.out)
                      go_wp2_with (first | (at_builtin; refine list_appI rfl _ _ rfl w.heap.size _ _ rfl (HO.out.alloc _) _ 1 (x : Int) rfl (OneI.new _ _ _) (by have := ps_len (P := P) (n := X); omega) (by have := HB.out.size; simp; omega) ?_; intro v5 W5 own5 grow5) | fail)
                      have HB5 : Hid (RowKit.Below w.heap.size w W5) := (HB.out.alloc HB.out.size _).grown grow5 (by have := HB.out.size; simp; omega) HO.out.block
                      have HO5 : Hid (OwnI W5 w.heap.size v5 (ps P (x + 1))) := by show OwnI _ _ _ _; rw [HP.out, ps_next HCf.out KF.out HCg.out KG.out (by omega) (by rw [← HP.out]; exact HT.out), ← HP.out]; exact own5
                      clear own5 grow5
                      go_wp2
                      go_roundg ((lf - i') + (lg - k'))
                      case measure => omega
                      case rel => exact ⟨i', k', x + 1, rfl, rfl, by omega, by omega, by omega, by omega, HB5.out, HO5.out, by rw [show ((x + 1 : Nat) : Int) = (x : Int) + 1 by omega]; exact KF2.out, by rw [show ((x + 1 : Nat) : Int) = (x : Int) + 1 by omega]; exact KG2.out⟩
                  · have hltkz : ¬ (k' : Int) < (lg : Int) := by omega
                    have KG2 := Lib.hid (HM'.out.out HVg.out fun h => by have := HL'.out; omega)
                    have hpr' := (hpr.out i' hi1 KF2.out)
                    go_wp2_with (first | (at_builtin; refine list_appI rfl _ _ rfl w.heap.size _ _ rfl (HO.out.alloc _) _ 1 (x : Int) rfl (OneI.new _ _ _) (by have := ps_len (P := P) (n := X); omega) (by have := HB.out.size; simp; omega) ?_; intro v5 W5 own5 grow5) | fail)
                    have HB5 : Hid (RowKit.Below w.heap.size w W5) := (HB.out.alloc HB.out.size _).grown grow5 (by have := HB.out.size; simp; omega) HO.out.block
                    have HO5 : Hid (OwnI W5 w.heap.size v5 (ps P (x + 1))) := by show OwnI _ _ _ _; rw [HP.out, ps_next HCf.out KF.out HCg.out KG.out (by omega) (by rw [← HP.out]; exact HT.out), ← HP.out]; exact own5
                    clear own5 grow5
                    go_wp2
                    go_roundg ((lf - i') + (lg - k'))
                    case measure => omega
                    case rel => exact ⟨i', k', x + 1, rfl, rfl, by omega, by omega, by omega, by omega, HB5.out, HO5.out, by rw [show ((x + 1 : Nat) : Int) = (x : Int) + 1 by omega]; exact KF2.out, by rw [show ((x + 1 : Nat) : Int) = (x : Int) + 1 by omega]; exact KG2.out⟩
            · have hltz : ¬ (i' : Int) < (lf : Int) := by omega
              have KF2 := Lib.hid (HM.out.out HVf.out fun h => by have := HL.out; omega)
              go_wp2_with fail
              rename World => wo
              go_loopg [7] lg (fun q s7 wr => wr = wo ∧ ∃ k' : Nat, s7 = .int .i64 k' ∧ k ≤ k' ∧ k' ≤ lg ∧ lg - k' ≤ q ∧ Hid (Mid g k' x))
              case atStart => exact ⟨rfl, k, rfl, by omega, by omega, by omega, KG.out.mid⟩
              case round =>
                obtain ⟨rfl, k', rfl, hk1, hk2, hkq, HM'⟩ := hrel
                by_cases hltk : k' < lg
                · have hltkz : (k' : Int) < (lg : Int) := by omega
                  have hkl' : k' < g.length := by rw [HL'.out]; exact hltk
                  have z1 := ((HS'.out.below HB.out).cells k' hkl').1
                  obtain ⟨u, hu⟩ : ∃ u, u = g[k'].f := ⟨_, rfl⟩
                  rw [← hu] at z1
                  have HU := Lib.hid hu
                  clear hu
                  by_cases hux : u = (x : Int)
                  · have HM2' := Lib.hid (HM'.out.step HVg.out hkl' (by rw [← HU.out]; exact hux))
                    subst hux
                    go_wp2_with fail
                    go_roundg (lg - (k' + 1))
                    case measure => omega
                    case rel => exact ⟨rfl, k' + 1, by go_num, by omega, by omega, by omega, HM2'.out⟩
                  · have KG2 := Lib.hid (HM'.out.out HVg.out fun h => by rw [← HU.out]; exact hux)
                    have huxb : (u == (x : Int)) = false := by simpa using hux
                    have hpr' := (hpr.out i' hi1 KF2.out)
                    go_wp2_with (first | (at_builtin; refine list_appI rfl _ _ rfl w.heap.size _ _ rfl (HO.out.alloc _) _ 1 (x : Int) rfl (OneI.new _ _ _) (by have := ps_len (P := P) (n := X); omega) (by have := HB.out.size; simp; omega) ?_; intro v5 W5 own5 grow5) | fail)
                    have HB5 : Hid (RowKit.Below w.heap.size w W5) := (HB.out.alloc HB.out.size _).grown grow5 (by have := HB.out.size; simp; omega) HO.out.block
                    have HO5 : Hid (OwnI W5 w.heap.size v5 (ps P (x + 1))) := by show OwnI _ _ _ _; rw [HP.out, ps_next HCf.out KF.out HCg.out KG.out (by omega) (by rw [← HP.out]; exact HT.out), ← HP.out]; exact own5
                    clear own5 grow5
                    go_wp2
                    go_roundg ((lf - i') + (lg - k'))
                    case measure => omega
                    case rel => exact ⟨i', k', x + 1, rfl, rfl, by omega, by omega, by omega, by omega, HB5.out, HO5.out, by rw [show ((x + 1 : Nat) : Int) = (x : Int) + 1 by omega]; exact KF2.out, by rw [show ((x + 1 : Nat) : Int) = (x : Int) + 1 by omega]; exact KG2.out⟩
                · have hltkz : ¬ (k' : Int) < (lg : Int) := by omega
                  have KG2 := Lib.hid (HM'.out.out HVg.out fun h => by have := HL'.out; omega)
                  have hpr' := (hpr.out i' hi1 KF2.out)
                  go_wp2_with (first | (at_builtin; refine list_appI rfl _ _ rfl w.heap.size _ _ rfl (HO.out.alloc _) _ 1 (x : Int) rfl (OneI.new _ _ _) (by have := ps_len (P := P) (n := X); omega) (by have := HB.out.size; simp; omega) ?_; intro v5 W5 own5 grow5) | fail)
                  have HB5 : Hid (RowKit.Below w.heap.size w W5) := (HB.out.alloc HB.out.size _).grown grow5 (by have := HB.out.size; simp; omega) HO.out.block
                  have HO5 : Hid (OwnI W5 w.heap.size v5 (ps P (x + 1))) := by show OwnI _ _ _ _; rw [HP.out, ps_next HCf.out KF.out HCg.out KG.out (by omega) (by rw [← HP.out]; exact HT.out), ← HP.out]; exact own5
                  clear own5 grow5
                  go_wp2
                  go_roundg ((lf - i') + (lg - k'))
                  case measure => omega
                  case rel => exact ⟨i', k', x + 1, rfl, rfl, by omega, by omega, by omega, by omega, HB5.out, HO5.out, by rw [show ((x + 1 : Nat) : Int) = (x : Int) + 1 by omega]; exact KF2.out, by rw [show ((x + 1 : Nat) : Int) = (x : Int) + 1 by omega]; exact KG2.out⟩
      · have hkgz : ¬ (k : Int) < (lg : Int) := by omega
        have KF : Hid (Cut f i x) := HCf.out.up HVf.out (by omega) fun h => by rw [← HX.out]; omega
        have KG : Hid (Cut g k x) := HCg.out.up HVg.out (by omega) fun h => by have := HL'.out; omega
        have HT : Hid (P x = true) := by show _ = _; rw [HP.out]; unfold isS; rw [fs_at hil HX.out, Bool.true_or]
        have hpr : Hid (∀ i', i ≤ i' → Cut f i' ((x : Int) + 1) → i < i') := fun i' hi' hc => by
          apply Decidable.byContradiction; intro hn; obtain rfl : i' = i := by omega
          have := hc.2 _ hil (Nat.le_refl _); rw [← HX.out] at this; omega
        go_wp2_with fail
        rename World => wo
        go_loopg [6] lf (fun q s6 wr => wr = wo ∧ ∃ i' : Nat, s6 = .int .i64 i' ∧ i ≤ i' ∧ i' ≤ lf ∧ lf - i' ≤ q ∧ Hid (Mid f i' x))
        case atStart => exact ⟨rfl, i, rfl, by omega, by omega, by omega, KF.out.mid⟩
        case round =>
          obtain ⟨rfl, i', rfl, hi1, hi2, hiq, HM⟩ := hrel
          by_cases hlt : i' < lf
          · have hltz : (i' : Int) < (lf : Int) := by omega
            have hil' : i' < f.length := by rw [HL.out]; exact hlt
            have z0 := ((HS.out.below HB.out).cells i' hil').1
            obtain ⟨z, hz⟩ : ∃ z, z = f[i'].f := ⟨_, rfl⟩
            rw [← hz] at z0
            have HZ := Lib.hid hz
            clear hz
            by_cases hzx : z = (x : Int)
            · have HM2 := Lib.hid (HM.out.step HVf.out hil' (by rw [← HZ.out]; exact hzx))
              subst hzx
              go_wp2_with fail
              go_roundg (lf - (i' + 1))
              case measure => omega
              case rel => exact ⟨rfl, i' + 1, by go_num, by omega, by omega, by omega, HM2.out⟩
            · have KF2 := Lib.hid (HM.out.out HVf.out fun h => by rw [← HZ.out]; exact hzx)
              have hzb : (z == (x : Int)) = false := by simpa using hzx
              go_wp2_with fail
              rename World => wo
              go_loopg [7] lg (fun q s7 wr => wr = wo ∧ ∃ k' : Nat, s7 = .int .i64 k' ∧ k ≤ k' ∧ k' ≤ lg ∧ lg - k' ≤ q ∧ Hid (Mid g k' x))
              case atStart => exact ⟨rfl, k, rfl, by omega, by omega, by omega, KG.out.mid⟩
              case round =>
                obtain ⟨rfl, k', rfl, hk1, hk2, hkq, HM'⟩ := hrel
                by_cases hltk : k' < lg
                · exfalso; omega
                · have hltkz : ¬ (k' : Int) < (lg : Int) := by omega
                  have KG2 := Lib.hid (HM'.out.out HVg.out fun h => by have := HL'.out; omega)
                  have hpr' := (hpr.out i' hi1 KF2.out)
                  go_wp2_with (first | (at_builtin; refine list_appI rfl _ _ rfl w.heap.size _ _ rfl (HO.out.alloc _) _ 1 (x : Int) rfl (OneI.new _ _ _) (by have := ps_len (P := P) (n := X); omega) (by have := HB.out.size; simp; omega) ?_; intro v5 W5 own5 grow5) | fail)
                  have HB5 : Hid (RowKit.Below w.heap.size w W5) := (HB.out.alloc HB.out.size _).grown grow5 (by have := HB.out.size; simp; omega) HO.out.block
                  have HO5 : Hid (OwnI W5 w.heap.size v5 (ps P (x + 1))) := by show OwnI _ _ _ _; rw [HP.out, ps_next HCf.out KF.out HCg.out KG.out (by omega) (by rw [← HP.out]; exact HT.out), ← HP.out]; exact own5
                  clear own5 grow5
                  go_wp2
                  go_roundg ((lf - i') + (lg - k'))
                  case measure => omega
                  case rel => exact ⟨i', k', x + 1, rfl, rfl, by omega, by omega, by omega, by omega, HB5.out, HO5.out, by rw [show ((x + 1 : Nat) : Int) = (x : Int) + 1 by omega]; exact KF2.out, by rw [show ((x + 1 : Nat) : Int) = (x : Int) + 1 by omega]; exact KG2.out⟩
          · have hltz : ¬ (i' : Int) < (lf : Int) := by omega
            have KF2 := Lib.hid (HM.out.out HVf.out fun h => by have := HL.out; omega)
            go_wp2_with fail
            rename World => wo
            go_loopg [7] lg (fun q s7 wr => wr = wo ∧ ∃ k' : Nat, s7 = .int .i64 k' ∧ k ≤ k' ∧ k' ≤ lg ∧ lg - k' ≤ q ∧ Hid (Mid g k' x))
            case atStart => exact ⟨rfl, k, rfl, by omega, by omega, by omega, KG.out.mid⟩
            case round =>
              obtain ⟨rfl, k', rfl, hk1, hk2, hkq, HM'⟩ := hrel
              by_cases hltk : k' < lg
              · exfalso; omega
              · have hltkz : ¬ (k' : Int) < (lg : Int) := by omega
                have KG2 := Lib.hid (HM'.out.out HVg.out fun h => by have := HL'.out; omega)
                have hpr' := (hpr.out i' hi1 KF2.out)
                go_wp2_with (first | (at_builtin; refine list_appI rfl _ _ rfl w.heap.size _ _ rfl (HO.out.alloc _) _ 1 (x : Int) rfl (OneI.new _ _ _) (by have := ps_len (P := P) (n := X); omega) (by have := HB.out.size; simp; omega) ?_; intro v5 W5 own5 grow5) | fail)
                have HB5 : Hid (RowKit.Below w.heap.size w W5) := (HB.out.alloc HB.out.size _).grown grow5 (by have := HB.out.size; simp; omega) HO.out.block
                have HO5 : Hid (OwnI W5 w.heap.size v5 (ps P (x + 1))) := by show OwnI _ _ _ _; rw [HP.out, ps_next HCf.out KF.out HCg.out KG.out (by omega) (by rw [← HP.out]; exact HT.out), ← HP.out]; exact own5
                clear own5 grow5
                go_wp2
                go_roundg ((lf - i') + (lg - k'))
                case measure => omega
                case rel => exact ⟨i', k', x + 1, rfl, rfl, by omega, by omega, by omega, by omega, HB5.out, HO5.out, by rw [show ((x + 1 : Nat) : Int) = (x : Int) + 1 by omega]; exact KF2.out, by rw [show ((x + 1 : Nat) : Int) = (x : Int) + 1 by omega]; exact KG2.out⟩
    · have hifz : ¬ (i : Int) < (lf : Int) := by omega
      by_cases hkg : k < lg
      · have hkgz : (k : Int) < (lg : Int) := by omega
        have hkl : k < g.length := by rw [HL'.out]; exact hkg
        have y0 := ((HS'.out.below HB.out).cells k hkl).1
        have yb := (HVg.out.wl (List.getElem_mem hkl)).2
        have yX := HCg.out.2 k hkl (Nat.le_refl _)
        obtain ⟨y, hy⟩ : ∃ y : Nat, (y : Int) = g[k].f := ⟨g[k].f.toNat, by omega⟩
        rw [← hy] at y0 yb yX
        have HY := Lib.hid hy
        clear hy
        have KF : Hid (Cut f i y) := HCf.out.up HVf.out (by omega) fun h => by have := HL.out; omega
        have KG : Hid (Cut g k y) := HCg.out.up HVg.out (by omega) fun h => by rw [← HY.out]; omega
        have HT : Hid (P y = true) := by show _ = _; rw [HP.out]; unfold isS; rw [fs_at hkl HY.out, Bool.or_true]
        have hpr : Hid ((∀ i', Cut f i' (y + 1) → i ≤ i' → True) ∧ (∀ k', k ≤ k' → Cut g k' ((y : Int) + 1) → k < k')) := ⟨fun _ _ _ => trivial, fun k' hk' hc => by
          apply Decidable.byContradiction; intro hn; obtain rfl : k' = k := by omega
          have := hc.2 _ hkl (Nat.le_refl _); rw [← HY.out] at this; omega⟩
        have hy1 : (y : Int) < 100001 := by omega
        have hy2 : decide ((y : Int) < 100001) = true := decide_eq_true hy1
        go_wp2_with fail
        rename World => wo
        go_loopg [6] lf (fun q s6 wr => wr = wo ∧ ∃ i' : Nat, s6 = .int .i64 i' ∧ i ≤ i' ∧ i' ≤ lf ∧ lf - i' ≤ q ∧ Hid (Mid f i' y))
        case atStart => exact ⟨rfl, i, rfl, by omega, by omega, by omega, KF.out.mid⟩
        case round =>
          obtain ⟨rfl, i', rfl, hi1, hi2, hiq, HM⟩ := hrel
          by_cases hlt : i' < lf
          · exfalso; omega
          · have hltz : ¬ (i' : Int) < (lf : Int) := by omega
            have KF2 := Lib.hid (HM.out.out HVf.out fun h => by have := HL.out; omega)
            go_wp2_with fail
            rename World => wo
            go_loopg [7] lg (fun q s7 wr => wr = wo ∧ ∃ k' : Nat, s7 = .int .i64 k' ∧ k ≤ k' ∧ k' ≤ lg ∧ lg - k' ≤ q ∧ Hid (Mid g k' y))
            case atStart => exact ⟨rfl, k, rfl, by omega, by omega, by omega, KG.out.mid⟩
            case round =>
              obtain ⟨rfl, k', rfl, hk1, hk2, hkq, HM'⟩ := hrel
              by_cases hltk : k' < lg
              · have hltkz : (k' : Int) < (lg : Int) := by omega
                have hkl' : k' < g.length := by rw [HL'.out]; exact hltk
                have z1 := ((HS'.out.below HB.out).cells k' hkl').1
                obtain ⟨u, hu⟩ : ∃ u, u = g[k'].f := ⟨_, rfl⟩
                rw [← hu] at z1
                have HU := Lib.hid hu
                clear hu
                by_cases hux : u = (y : Int)
                · have HM2' := Lib.hid (HM'.out.step HVg.out hkl' (by rw [← HU.out]; exact hux))
                  subst hux
                  go_wp2_with fail
                  go_roundg (lg - (k' + 1))
                  case measure => omega
                  case rel => exact ⟨rfl, k' + 1, by go_num, by omega, by omega, by omega, HM2'.out⟩
                · have KG2 := Lib.hid (HM'.out.out HVg.out fun h => by rw [← HU.out]; exact hux)
                  have huxb : (u == (y : Int)) = false := by simpa using hux
                  have hpr' := (hpr.out.2 k' hk1 KG2.out)
                  go_wp2_with (first | (at_builtin; refine list_appI rfl _ _ rfl w.heap.size _ _ rfl (HO.out.alloc _) _ 1 (y : Int) rfl (OneI.new _ _ _) (by have := ps_len (P := P) (n := X); omega) (by have := HB.out.size; simp; omega) ?_; intro v5 W5 own5 grow5) | fail)
                  have HB5 : Hid (RowKit.Below w.heap.size w W5) := (HB.out.alloc HB.out.size _).grown grow5 (by have := HB.out.size; simp; omega) HO.out.block
                  have HO5 : Hid (OwnI W5 w.heap.size v5 (ps P (y + 1))) := by show OwnI _ _ _ _; rw [HP.out, ps_next HCf.out KF.out HCg.out KG.out (by omega) (by rw [← HP.out]; exact HT.out), ← HP.out]; exact own5
                  clear own5 grow5
                  go_wp2
                  go_roundg ((lf - i') + (lg - k'))
                  case measure => omega
                  case rel => exact ⟨i', k', y + 1, rfl, rfl, by omega, by omega, by omega, by omega, HB5.out, HO5.out, by rw [show ((y + 1 : Nat) : Int) = (y : Int) + 1 by omega]; exact KF2.out, by rw [show ((y + 1 : Nat) : Int) = (y : Int) + 1 by omega]; exact KG2.out⟩
              · have hltkz : ¬ (k' : Int) < (lg : Int) := by omega
                have KG2 := Lib.hid (HM'.out.out HVg.out fun h => by have := HL'.out; omega)
                have hpr' := (hpr.out.2 k' hk1 KG2.out)
                go_wp2_with (first | (at_builtin; refine list_appI rfl _ _ rfl w.heap.size _ _ rfl (HO.out.alloc _) _ 1 (y : Int) rfl (OneI.new _ _ _) (by have := ps_len (P := P) (n := X); omega) (by have := HB.out.size; simp; omega) ?_; intro v5 W5 own5 grow5) | fail)
                have HB5 : Hid (RowKit.Below w.heap.size w W5) := (HB.out.alloc HB.out.size _).grown grow5 (by have := HB.out.size; simp; omega) HO.out.block
                have HO5 : Hid (OwnI W5 w.heap.size v5 (ps P (y + 1))) := by show OwnI _ _ _ _; rw [HP.out, ps_next HCf.out KF.out HCg.out KG.out (by omega) (by rw [← HP.out]; exact HT.out), ← HP.out]; exact own5
                clear own5 grow5
                go_wp2
                go_roundg ((lf - i') + (lg - k'))
                case measure => omega
                case rel => exact ⟨i', k', y + 1, rfl, rfl, by omega, by omega, by omega, by omega, HB5.out, HO5.out, by rw [show ((y + 1 : Nat) : Int) = (y : Int) + 1 by omega]; exact KF2.out, by rw [show ((y + 1 : Nat) : Int) = (y : Int) + 1 by omega]; exact KG2.out⟩
      · have hkgz : ¬ (k : Int) < (lg : Int) := by omega
        obtain rfl : i = lf := by omega
        obtain rfl : k = lg := by omega
        have hO := HO.out
        have e := ps_end (f := f) (g := g) (X := X) (by rw [HL.out]; exact HCf.out) (by rw [HL'.out]; exact HCg.out) hX
        rw [← HP.out, ← HN.out] at e
        rw [e] at hO
        obtain ⟨p, b, cap, hv, hR⟩ := hO.reads
        subst hv
        have HR := Lib.hid hR
        clear hO e hR
        go_wp2
        go_ret
        exact ⟨p, b, cap, rfl, HR.out, HB.out⟩
end Go.Proofs.Ytmjdolgcgbiajaa
