/-
  The reference's Marks: the days that some stretches have.
-/
import Derived.Test.YtomcngnfdflkkaaSOps
import Derived.Laws.OwnMore
namespace Go.Proofs.Ytomcngnfdflkkaa
open Go.RowKit Spn Go.Sort

theorem info_bool : (Try.prog.info? 4).map (fun i => (i.zero, i.size, i.bytes)) = some (some (.bool false), 1, 1) := by kernel_rfl

/-- A block holds for each day whether K has it. -/
def Mk (w : World) (g : Nat) (K : Int → Bool) : Prop := ∀ k : Nat, k < 36525 → w.cell? ⟨g, k, none⟩ = some (.bool (K k)) ∧ w.frozen? ⟨g, k, none⟩ = false
theorem Mk.below {w w1 : World} {g B : Nat} {K : Int → Bool} (h : Mk w g K) (hB : RowKit.Below B w w1) (hg : g < B) : Mk w1 g K := fun k hk =>
  ⟨(hB.cell (p := ⟨g, k, none⟩) hg).trans (h k hk).1, (hB.frozen (p := ⟨g, k, none⟩) hg).trans (h k hk).2⟩
theorem Mk.congr {w : World} {g : Nat} {K M : Int → Bool} (h : Mk w g K) (e : ∀ d, K d = M d) : Mk w g M := fun k hk => ⟨by rw [(h k hk).1, e], (h k hk).2⟩
theorem Mk.set {w : World} {g : Nat} {K : Int → Bool} (h : Mk w g K) (d : Nat) (hd : d < 36525) (c : Bool) : Mk (w.setCell ⟨g, d, none⟩ (.bool c)) g fun x => if x = d then c else K x := fun k hk => by
  refine ⟨?_, by rw [World.frozen?_setCell]; exact (h k hk).2⟩
  by_cases e : k = d
  · subst e; rw [World.cell?_setCell_same _ _ _ (h k hk).1]; show _ = some (Value.bool (if (k : Int) = k then c else K k)); rw [if_pos rfl]
  · rw [World.cell?_setCell_other _ _ _ _ (fun x => by injection x with _ x _; exact e x.symm), (h k hk).1]; show _ = some (Value.bool (if (k : Int) = d then c else K k)); rw [if_neg (by omega)]
theorem Mk.own {w : World} {base g n : Nat} (h : w.ownsRow base 4 1 (.slice (some ⟨g, 0, none⟩) n n) n (madeCells (Value.bool false).cells (n * 1)).toList) (hn : n = 36525) : Mk w g (fun _ => false) := fun k hk => by
  refine ⟨?_, h.frozenAt k⟩
  rw [h.cellAt k (by omega)]
  have e : (Value.bool false).cells = #[.bool false] := rfl
  rw [e, toList_madeCells_one, Nat.mul_one, List.getElem?_replicate, if_pos (by omega)]

/-- Marks come out. -/
def OutM (w : World) (K : Int → Bool) (e : Ending) (w' : World) : Prop := ∃ g n, e = .returned (.slice (some ⟨g, 0, none⟩) n n) ∧ n = 36525 ∧ Mk w' g K ∧ w.heap.size ≤ g ∧ g < w'.heap.size ∧ RowKit.Below w.heap.size w w'

set_option maxHeartbeats 2000000 in
set_option maxRecDepth 100000 in
theorem marks_any (l : List (Int × Int)) (p : Option Addr) (b off cap len : Nat) (w : World) (hS : Sl w p b off len l) (hl : ∀ s, s ∈ l → st s = true) :
    Calls Try.prog 33 #[.slice p len cap] w fun e w' => OutM w (cov l) e w' := by
  have HS := Lib.hid hS
  have hm := hS.2.2.2.2.1
  have HL := Lib.hid hS.1
  have HST := Lib.hid hl
  obtain ⟨N, hN⟩ : ∃ N, N = 36525 := ⟨_, rfl⟩
  have HN := Lib.hid hN
  obtain ⟨i0, hi, hz⟩ := Option.map_eq_some_iff.1 info_bool
  simp only [Prod.mk.injEq] at hz
  obtain ⟨hz0, hz1, hz2⟩ := hz
  clear hS hl hN
  go_enter Try.func33, Try.ntmps33
  go_wp2_with (first | (at_make; refine wpList_make_full _ rfl _ _ 50 rfl w.heap.size 4 i0 _ 1 Try.underlying50 hi hz0 hz1 _ _ _ _ N rfl rfl (by rw [HN.out]; rfl) (by rw [HN.out]; rfl) (by rw [hz2, HN.out]; decide) (by rw [HN.out]; unfold maxLen; decide) (Nat.le_refl _) ?_; intro w1 hown1 hgrow1) | fail)
  have HM1 : Hid (Mk w1 w.heap.size (fun _ => false)) := Mk.own hown1 HN.out
  have HB1 : Hid (RowKit.Below w.heap.size w w1) := (Below.refl _ _).grown hgrow1 (Nat.le_refl _) (fun _ h => by cases h)
  have HG1 : Hid (w.heap.size < w1.heap.size) := by
    rcases Nat.lt_or_ge w.heap.size w1.heap.size with z | z
    · exact z
    · have := (HM1.out 0 (by omega)).1
      have := World.block_lt_of_cell? _ _ this
      exact this
  clear hown1 hgrow1 hi hz0 hz1 hz2
  obtain ⟨G, hG⟩ : ∃ G, G = w.heap.size := ⟨_, rfl⟩
  rw [← hG] at HM1 HG1 ⊢
  have HGz := Lib.hid hG
  have hN1 : N ≤ 36525 := by have := HN.out; omega
  have hN2 : 36525 ≤ N := by have := HN.out; omega
  clear hG
  go_loopg [4] len (fun gg s4 wr => ∃ k : Nat, s4 = .int .i64 k ∧ k ≤ len ∧ len - k ≤ gg ∧ Hid (Mk wr G (cov (l.take k))) ∧ Hid (RowKit.Below w.heap.size w wr) ∧ Hid (G < wr.heap.size))
  case atStart => exact ⟨0, rfl, by omega, by omega, HM1.out, HB1.out, HG1.out⟩
  case round =>
    obtain ⟨k, rfl, hk, hkg, HM, HB, HGs⟩ := hrel
    clear HM1 HB1 HG1 w1
    by_cases hlt : k < len
    · have hltz : (k : Int) < (len : Int) := by omega
      have hp1 := HS.out.2.1 (by omega)
      have hkl : k < l.length := by rw [HL.out]; exact hlt
      obtain ⟨x, hx⟩ : ∃ x, x = l[k].1 := ⟨_, rfl⟩
      obtain ⟨y, hy⟩ : ∃ x, x = l[k].2 := ⟨_, rfl⟩
      have hk2 : l[k] = (x, y) := Prod.ext hx.symm hy.symm
      have hst := (st_iff _).1 (HST.out _ (List.getElem_mem hkl))
      rw [hk2] at hst
      obtain ⟨x0, xy, y1⟩ := hst
      obtain ⟨xn, hxn⟩ : ∃ n : Nat, x = (n : Int) := ⟨x.toNat, by omega⟩
      have HT : Hid (∀ t, (cov (l.take k) t || (decide (x ≤ t) && decide (t < y))) = cov (l.take (k + 1)) t) := fun t => by
        rw [List.take_succ_eq_append_getElem hkl, cov_append, hk2, cov_cons, cov_nil, Bool.or_false]
      have HC : Hid (∀ W, RowKit.Below w.heap.size w W → W.cell? ⟨b, off + k * 2, none⟩ = some (.int .i64 x) ∧ W.cell? ⟨b, off + k * 2 + 1, none⟩ = some (.int .i64 y)) := fun W hW => by
        have := (HS.out.below hW).2.2.1 k hkl
        rw [← hx, ← hy] at this; exact this
      have c1 := (HC.out wr HB.out).1
      have c2 := (HC.out wr HB.out).2
      clear hx hy hk2
      subst hp1
      subst hxn
      obtain ⟨wo, rfl⟩ : ∃ wo : World, wo = wr := ⟨_, rfl⟩
      go_wp2_with fail
      go_loopg [5] 36525 (fun g2 s5 wr => ∃ d : Nat, s5 = .int .i64 d ∧ xn ≤ d ∧ (d : Int) ≤ y ∧ 36525 - d ≤ g2 ∧ Hid (Mk wr G (fun t => cov (l.take k) t || (decide ((xn : Int) ≤ t) && decide (t < (d : Int))))) ∧ Hid (RowKit.Below w.heap.size w wr) ∧ Hid (G < wr.heap.size))
      case atStart => exact ⟨xn, rfl, by omega, by omega, by omega, HM.out.congr (fun t => by
        have : (decide ((xn : Int) ≤ t) && decide (t < (xn : Int))) = false := by simp
        rw [this, Bool.or_false]), HB.out, HGs.out⟩
      case round =>
        obtain ⟨d, rfl, hd1, hd2, hdg, HM2, HB2, HG2⟩ := hrel
        have e1 := (HC.out wr HB2.out).1
        have e2 := (HC.out wr HB2.out).2
        by_cases hdy : (d : Int) < y
        · have hdn : (d : Int) < (N : Int) := by omega
          have hdN : d < 36525 := by omega
          have hcell := (HM2.out d hdN).1
          have hfr := (HM2.out d hdN).2
          have HM3 : Hid (Mk (wr.setCell ⟨G, d, none⟩ (.bool true)) G (fun t => cov (l.take k) t || (decide ((xn : Int) ≤ t) && decide (t < ((d + 1 : Nat) : Int))))) := (HM2.out.set d hdN true).congr (fun t => by
            show (if t = (d : Int) then true else _) = _
            by_cases h : t = (d : Int)
            · rw [if_pos h, decide_eq_true (by omega), decide_eq_true (by omega)]; simp
            · rw [if_neg h]; congr 2; simp only [decide_eq_decide]; omega)
          have HB3 : Hid (RowKit.Below w.heap.size w (wr.setCell ⟨G, d, none⟩ (.bool true))) := HB2.out.setCell (by show w.heap.size ≤ G; have := HGz.out; omega) _
          have HG3 : Hid (G < (wr.setCell ⟨G, d, none⟩ (.bool true)).heap.size) := by show _ < _; rw [World.size_setCell]; exact HG2.out
          go_wp2
          go_roundg (36525 - (d + 1))
          case measure => omega
          case rel => exact ⟨d + 1, by go_num, by omega, by omega, by omega, HM3, HB3, HG3⟩
        · have hde : (d : Int) = y := by omega
          have HM3 : Hid (Mk wr G (cov (l.take (k + 1)))) := HM2.out.congr (fun t => by rw [← HT.out, hde])
          clear hde
          go_wp2
          go_roundg (len - (k + 1))
          case measure => omega
          case rel => exact ⟨k + 1, by go_num, by omega, by omega, HM3, HB2, HG2⟩
    · have hltz : ¬ (k : Int) < (len : Int) := by omega
      have hle : l.take k = l := List.take_of_length_le (by have := HL.out; omega)
      have HR : Hid (OutM w (cov l) (.returned (.slice (some ⟨G, 0, none⟩) N N)) wr) := by
        have := HM.out
        rw [hle] at this
        exact ⟨G, N, rfl, HN.out, this, by have := HGz.out; omega, HGs.out, HB.out⟩
      clear hle
      go_wp2
      go_ret
      exact HR.out
end Go.Proofs.Ytomcngnfdflkkaa
