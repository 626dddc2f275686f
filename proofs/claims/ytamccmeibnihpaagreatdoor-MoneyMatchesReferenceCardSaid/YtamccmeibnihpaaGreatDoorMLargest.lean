/-
  The walks of money.largestFirst and of the closure by which it sorts: the places of the remainders, sorted by their order.
-/
import Derived.Test.YtamccmeibnihpaaGreatDoorMStable
import Derived.Deep.OwnRows
namespace Go.Proofs.YtamccmeibnihpaaGreatDoor
open Go.RowKit Go.Lib Go.Sort Go.Shelf Go.Proofs.YtamccmeibnihpaaGreatDoor.MSort

variable {n : Nat}

/-- The cells of a block hold integers. -/
def Ints (w : World) (b : Nat) (sz : Nat) (f : Nat → Int) : Prop := ∀ k, k < sz → w.cell? ⟨b, k, none⟩ = some (.int .i64 (f k))

set_option maxHeartbeats 2000000 in
theorem closure_any (sz cap bx rb : Nat) (r : Nat → Int) (x y : Nat) (W : World) (hb : W.cell? ⟨bx, 0, none⟩ = some (.slice (some ⟨rb, 0, none⟩) sz cap)) (hr : Ints W rb sz r) (hx : x < sz) (hy : y < sz) :
    Calls Tryz.prog 49 #[.int .i64 x, .int .i64 y, .pointer (some ⟨bx, 0, none⟩)] W fun e w' => e = .returned (.int .i64 (cmp3 (r y) (r x))) ∧ ∃ q, w' = W.drewN q := by
  have l1 := hr x hx
  have l2 := hr y hy
  have px : (0 : Int) ≤ (x : Int) := by omega
  have bx' : (x : Int) < (sz : Int) := by omega
  have py : (0 : Int) ≤ (y : Int) := by omega
  have by' : (y : Int) < (sz : Int) := by omega
  generalize r x = rx at l1 ⊢
  generalize r y = ry at l2 ⊢
  clear hr
  go_enter Tryz.func49, Tryz.ntmps49
  go_wp2
  go_quiet ((go_at_call 45; exact Calls.quiet_of_same ((cmp_any _ _ _).mono (fun _ _ h => ⟨h.1, h.2.symm⟩))))
  go_wp2
  go_ret
  exact ⟨rfl, _, rfl⟩

/-- Cells of other blocks, in a world of the sort's. -/
theorem SW.other {α : Type} [Inhabited α] {enc : α → Value} {w0 W : World} {blk off : Nat} {d : Array α} (h : SW enc w0 blk off d W) (b o : Nat) (hb : b ≠ blk) (hl : b < w0.heap.size) : W.cell? ⟨b, o, none⟩ = w0.cell? ⟨b, o, none⟩ := by
  obtain ⟨m, os, rfl⟩ := h
  unfold sortWorld
  rw [cell?_grow _ _ _ (by rw [size_putRow]; exact hl), cell?_putRow_other _ _ _ _ _ _ (Or.inl hb)]
  rfl

theorem SW.below {α : Type} [Inhabited α] {enc : α → Value} {w0 W w : World} {blk off : Nat} {d : Array α} (h : SW enc w0 blk off d W) (hB : Below w.heap.size w w0) (hb : w.heap.size ≤ blk) : Below w.heap.size w W := by
  obtain ⟨m, os, rfl⟩ := h
  refine ⟨hB.os, hB.tape, hB.output, ?_, fun k hk => ?_⟩
  · unfold sortWorld; rw [size_grow, size_putRow]; exact Nat.le_trans hB.size (Nat.le_add_right _ _)
  · have hk2 : k < w0.heap.size := Nat.lt_of_lt_of_le hk hB.size
    rw [← hB.block k hk]
    unfold sortWorld
    rw [heap_grow_old _ _ (by rw [size_putRow]; exact hk2)]
    unfold putRow mapBlock
    show (w0.heap.modify blk _)[k]? = _
    rw [Array.getElem?_modify, if_neg (by omega)]

/-- What the closure does for the sort. -/
theorem cmpLays (r : Rests n) (cap bx rb blk sz : Nat) (hsz : sz = n + 1) (w0 : World) (hb : w0.cell? ⟨bx, 0, none⟩ = some (.slice (some ⟨rb, 0, none⟩) sz cap)) (hr : ∀ x : Fin (n + 1), w0.cell? ⟨rb, x.val, none⟩ = some (.int .i64 (r x)))
    (h1 : bx ≠ blk) (h2 : rb ≠ blk) (h3 : bx < w0.heap.size) (h4 : rb < w0.heap.size) :
    CmpLays1 Tryz.prog 49 #[.pointer (some ⟨bx, 0, none⟩)] en (cfR r) blk 0 sz w0 := by
  subst hsz
  refine CmpReads.lays ?_
  intro m os dk hd x y
  have hS : SW en w0 blk 0 dk (sortWorld en w0 blk 0 m dk os) := ⟨m, os, rfl⟩
  have b1 := (SW.other hS bx 0 h1 h3).trans hb
  generalize hR : (fun k => if h : k < n + 1 then r ⟨k, h⟩ else 0 : Nat → Int) = rr
  have i1 : Ints (sortWorld en w0 blk 0 m dk os) rb (n + 1) rr := by
    intro k hk
    rw [SW.other hS rb k h2 h4, ← hR]
    simp only [dif_pos hk]
    exact hr ⟨k, hk⟩
  have ex : rr x.val = r x := by rw [← hR]; simp
  have ey : rr y.val = r y := by rw [← hR]; simp
  have hc := closure_any (n + 1) cap bx rb rr x.val y.val _ b1 i1 x.isLt y.isLt
  unfold cfR
  rw [← ex, ← ey]
  exact hc

theorem info_int : (Tryz.prog.info? 3).map (fun i => (i.zero, i.size, i.bytes)) = some (some (.int .i64 0), 1, 8) := by kernel_rfl

theorem size_made (z : Array Value) (m : Nat) : (madeCells z m).size = m := by simp [madeCells]
theorem get_made (m k : Nat) (h : k < m) : (madeCells #[.int .i64 0] m)[k]? = some (.int .i64 0) := by
  simp [madeCells, h, Nat.mod_one]

/-- The places in order. -/
def allPlaces (n : Nat) : Array (Fin (n + 1)) := (List.finRange (n + 1)).toArray
theorem allPlaces_size (n : Nat) : (allPlaces n).size = n + 1 := by simp [allPlaces]
theorem allPlaces_get (n k : Nat) (h : k < n + 1) : (allPlaces n)[k]! = ⟨k, h⟩ := by
  rw [getElem!_pos _ k (by rw [allPlaces_size]; exact h)]
  simp [allPlaces]

theorem allPlaces_parts (r : Rests n) (sz : Nat) (h : sz = n + 1) : Parts r (fun i => i) sz (allPlaces n) := by
  intro i j x y
  rw [allPlaces_get n i (by omega), allPlaces_get n j (by omega)]
  exact ⟨fun e => by dsimp only at e; omega, fun _ => x⟩

/-- The places in the order of their remainders. -/
def ordL (r : Rests n) : List (Fin (n + 1)) := (List.finRange (n + 1)).mergeSort (fun x y => !ltR r y x)

theorem ordL_of (r : Rests n) {d : Array (Fin (n + 1))} {sz : Nat} (hsz : sz = n + 1) (P : PermIn 0 sz (allPlaces n) d) (S : SortedIn (ltR r) 0 sz d) : d.toList = ordL r := by
  subst hsz
  have h := sorted_unique_holds (lt := ltR r) (fitsR r).swo (totR r) (allPlaces n) d (by rw [allPlaces_size]; exact P) (by rw [allPlaces_size]; exact S)
  rw [h]; simp [allPlaces, ordL]

set_option maxHeartbeats 4000000 in
set_option maxRecDepth 100000 in
theorem largest_any (r : Rests n) (cap rb sz : Nat) (w : World) (hr : ∀ x : Fin (n + 1), w.cell? ⟨rb, x.val, none⟩ = some (.int .i64 (r x))) (hrb : rb < w.heap.size) (hsz : sz = n + 1) (h64 : sz ≤ 64) :
    Calls Tryz.prog 38 #[.slice (some ⟨rb, 0, none⟩) sz cap] w fun e w' =>
      ∃ (blk : Nat) (d : Array (Fin (n + 1))), e = .returned (.slice (some ⟨blk, 0, none⟩) sz sz) ∧ d.toList = ordL r ∧ Holds en w' blk 0 d ∧ w.heap.size ≤ blk ∧ blk < w'.heap.size ∧ Below w.heap.size w w' := by
  have HS : Hid (sz = n + 1) := hsz
  have HR : Aside (∀ x : Fin (n + 1), w.cell? ⟨rb, x.val, none⟩ = some (.int .i64 (r x))) := hr
  have hs1 : 1 ≤ sz := by omega
  have hmk := run_make_row' (P := Tryz.prog) 22 3 (.int .i64 0) 8 Tryz.underlying22 info_int rfl .i64 .i64 sz (by omega) (by omega)
  clear hsz hr
  go_enter Tryz.func38, Tryz.ntmps38
  go_wp2
  clear hmk
  go_loopg [10] sz (fun kx vi wr => ∃ (i : Nat) (c : Array Value), vi = .int .i64 i ∧ i ≤ sz ∧ sz - i ≤ kx ∧ Hid (c.size = sz ∧ ∀ k, k < i → c[k]? = some (.int .i64 (k : Int))) ∧ wr = (w.alloc (.cells #[.slice (some ⟨rb, 0, none⟩) sz cap] 22)).alloc (.cells c 3))
  case atStart => exact ⟨0, _, rfl, by omega, by omega, ⟨size_made _ _, fun k hk => by omega⟩, rfl⟩
  case round =>
    obtain ⟨i, c, rfl, hi, hk, HC, rfl⟩ := hrel
    by_cases hlt : i < sz
    · have hltz : (i : Int) < (sz : Int) := by omega
      have p0 : (0 : Int) ≤ (i : Int) := by omega
      have hcs : i < c.size := by rw [HC.out.1]; exact hlt
      obtain ⟨v, hv⟩ : ∃ v, c[i]? = some v := ⟨_, Array.getElem?_eq_getElem hcs⟩
      go_wp2
      go_roundg (sz - (i + 1))
      case measure => omega
      case rel =>
        refine ⟨i + 1, c.setIfInBounds i (.int .i64 i), by go_num, by omega, by omega, ?_, ?_⟩
        · show _ ∧ _
          refine ⟨by rw [Array.size_setIfInBounds]; exact HC.out.1, fun k hk => ?_⟩
          rw [Array.getElem?_setIfInBounds]
          by_cases e : i = k
          · subst e; rw [if_pos rfl, if_pos hcs]
          · rw [if_neg e]; exact HC.out.2 k (by omega)
        · rfl
    · have hltz : ¬ (i : Int) < (sz : Int) := by omega
      obtain rfl : i = sz := by omega
      have hW : Holds en ((w.alloc (.cells #[.slice (some ⟨rb, 0, none⟩) i cap] 22)).alloc (.cells c 3)) (w.heap.size + 1) 0 (allPlaces n) := by
        intro j hj
        rw [allPlaces_size] at hj
        have hcj := HC.out.2 j (by rw [HS.out]; exact hj)
        refine ⟨?_, by simp⟩
        rw [allPlaces_get n j hj, Nat.zero_add]
        unfold en
        simp [hcj]
      have eg : ∀ args w, (callFunc 49 args).run Tryz.prog w = .ok (.enter 49 args) w := enters_of Tryz.func49 (by kernel_rfl) rfl
      have hcm := cmpLays r cap w.heap.size rb (w.heap.size + 1) i HS.out ((w.alloc (.cells #[.slice (some ⟨rb, 0, none⟩) i cap] 22)).alloc (.cells c 3)) (by simp) (fun x => by
        have := HR.out x
        rw [World.cell?_alloc_old, World.cell?_alloc_old] <;> first | exact this | (simp; omega) | (simp; done) | omega) (by omega) (by omega) (by simp; omega) (by simp; omega)
      have hc := sortStable_any r 49 #[.pointer (some ⟨w.heap.size, 0, none⟩)] eg (w.heap.size + 1) 0 i i (allPlaces n) (allPlaces n) _ _ hcm ⟨en_one, hW, by simp⟩ (by rw [allPlaces_size, HS.out]) (SW.start hW) (by rw [allPlaces_size, HS.out]) h64 (allPlaces_parts r i HS.out)
      have K := Lib.hid hc
      clear hc hcm eg
      go_wp2_with fail
      refine K.out.mono ?_
      rintro e' w1 ⟨rfl, d1, hP, hS, hW1⟩
      have e1 : d1.toList = ordL r := ordL_of r HS.out hP hS
      have hsz1 : d1.size = n + 1 := by rw [hP.1, allPlaces_size]
      have hH := hW1.holds (by simp) hW (by rw [hsz1, allPlaces_size])
      have hB := SW.below (w := w) hW1 (((Below.refl _ _).alloc (Nat.le_refl _) _).alloc (by simp) _) (by omega)
      have hL := hW1.lt (by simp)
      have E1 : Aside _ := e1
      have H1 : Aside _ := hH
      have B1 : Aside _ := hB
      have L1 : Aside _ := hL
      clear e1 hH hB hL hsz1 hP hS hW1 K hW
      go_wp2
      go_ret
      exact ⟨_, d1, rfl, E1.out, H1.out, by omega, L1.out, B1.out⟩
end Go.Proofs.YtamccmeibnihpaaGreatDoor
