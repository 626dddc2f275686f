/-
  The comparison of ends, and sorting them.
-/
import Derived.Test.YtomcngnfdflkkaaSShelf
import Derived.Test.YtomcngnfdflkkaaSDeps
namespace Go.Proofs.Ytomcngnfdflkkaa
open Go.RowKit Spn Go.Sort

theorem key_any (x y z : Int) (w : World) : Calls Try.prog 44 #[.agg #[.int .i64 x, .int .i64 y, .int .i64 z]] w fun e w' => e = .returned (.int .i64 x) ∧ ∃ q os', w' = grow (w.drewN q) os' := by
  go_enter Try.func44, Try.ntmps44
  go_wp2
  go_ret
  exact ⟨rfl, alloc_grown _ _⟩

/-- The sign of the difference. -/
def cmp3 (x y : Int) : Int := if x < y then -1 else if y < x then 1 else 0
theorem ret_int {k : IntKind} {a b : Int} (h : a = b) : Ending.returned (.int k a) = .returned (.int k b) := by rw [h]
set_option maxHeartbeats 400000 in
theorem cmp_any (x y : Int) (w : World) : Calls Try.prog 48 #[.int .i64 x, .int .i64 y] w fun e w' => e = .returned (.int .i64 (cmp3 x y)) ∧ w = w' := by
  have hn : ∀ (z : Int) (w : World), Calls Try.prog 59 #[.int .i64 z] w fun e w' => e = .returned (.bool false) ∧ w = w' := by
    intro z w
    go_enter Try.func59, Try.ntmps59
    go_wp2
    go_ret
    exact ⟨by simp, rfl⟩
  by_cases h1 : x < y
  · go_enter Try.func48, Try.ntmps48
    go_wp2_with ((with_reducible refine (hn _ _).mono ?_); rintro e w' ⟨rfl, rfl⟩)
    go_ret
    exact ⟨ret_int (by unfold cmp3; rw [if_pos (by omega)]), rfl⟩
  · by_cases h2 : y < x
    · go_enter Try.func48, Try.ntmps48
      go_wp2_with ((with_reducible refine (hn _ _).mono ?_); rintro e w' ⟨rfl, rfl⟩)
      go_ret
      exact ⟨ret_int (by unfold cmp3; rw [if_neg (by omega), if_pos (by omega)]), rfl⟩
    · go_enter Try.func48, Try.ntmps48
      go_wp2_with ((with_reducible refine (hn _ _).mono ?_); rintro e w' ⟨rfl, rfl⟩)
      go_ret
      exact ⟨ret_int (by unfold cmp3; rw [if_neg (by omega), if_neg (by omega)]), rfl⟩

set_option maxHeartbeats 1000000 in
theorem by_any (x y z x' y' z' : Int) (bx : Nat) (w : World) (hb : w.cell? ⟨bx, 0, none⟩ = some (.func (.func 44) #[] #[])) (hl : bx < w.heap.size) :
    Calls Try.prog 47 #[.agg #[.int .i64 x, .int .i64 y, .int .i64 z], .agg #[.int .i64 x', .int .i64 y', .int .i64 z'], .pointer (some ⟨bx, 0, none⟩)] w
      fun e w' => e = .returned (.int .i64 (cmp3 x x')) ∧ ∃ q os', w' = grow (w.drewN q) os' := by
  have hm := mixed
  have KK := Lib.hid key_any
  have kc : ∀ w : World, Calls Try.prog 48 #[.int .i64 x, .int .i64 x'] w fun e w' => e = .returned (.int .i64 (cmp3 x x')) ∧ ∃ q os', w' = grow (w.drewN q) os' := fun w => (cmp_any x x' w).mono fun _ _ ⟨he, hw⟩ => ⟨he, 0, #[], by rw [grow_empty, ← hw]; rfl⟩
  generalize cmp3 x x' = r at kc ⊢
  have KC := Lib.hid kc
  clear kc
  go_enter Try.func47, Try.ntmps47
  go_wp2_with fail
  obtain ⟨W, hW⟩ : ∃ W, W = (w.alloc (.cells #[.int .i64 x, .int .i64 y, .int .i64 z] 57)).alloc (.cells #[.int .i64 x', .int .i64 y', .int .i64 z'] 57) := ⟨_, rfl⟩
  have hG : ∃ q os', W = grow (w.drewN q) os' := ⟨0, _, by rw [hW, alloc_eq_grow, alloc_eq_grow, grow_grow]; rfl⟩
  have hB : RowKit.Below w.heap.size w W := by rw [hW]; exact ((Below.refl _ _).alloc (Nat.le_refl _) _).alloc (by simp) _
  have hz : W.heap.size = w.heap.size + 2 := by rw [hW]; simp
  have g0 := cell_grown (w := W) (show (⟨bx, 0, none⟩ : Addr).block < W.heap.size by show bx < _; omega) ((hB.cell (p := ⟨bx, 0, none⟩) hl).trans hb)
  have g1 := cell_grown (w := W) (a := ⟨w.heap.size, 0, none⟩) (v := .int .i64 x) (by show w.heap.size < _; omega) (by rw [hW]; simp [World.cell?_alloc_past, World.cell?_alloc_new])
  have g2 := cell_grown (w := W) (a := ⟨w.heap.size, 1, none⟩) (v := .int .i64 y) (by show w.heap.size < _; omega) (by rw [hW]; simp [World.cell?_alloc_past, World.cell?_alloc_new])
  have g3 := cell_grown (w := W) (a := ⟨w.heap.size, 2, none⟩) (v := .int .i64 z) (by show w.heap.size < _; omega) (by rw [hW]; simp [World.cell?_alloc_past, World.cell?_alloc_new])
  have g4 := cell_grown (w := W) (a := ⟨w.heap.size + 1, 0, none⟩) (v := .int .i64 x') (by show w.heap.size + 1 < _; omega) (by rw [hW, show w.heap.size + 1 = (w.alloc (.cells #[.int .i64 x, .int .i64 y, .int .i64 z] 57)).heap.size by simp, World.cell?_alloc_new]; rfl)
  have g5 := cell_grown (w := W) (a := ⟨w.heap.size + 1, 1, none⟩) (v := .int .i64 y') (by show w.heap.size + 1 < _; omega) (by rw [hW, show w.heap.size + 1 = (w.alloc (.cells #[.int .i64 x, .int .i64 y, .int .i64 z] 57)).heap.size by simp, World.cell?_alloc_new]; rfl)
  have g6 := cell_grown (w := W) (a := ⟨w.heap.size + 1, 2, none⟩) (v := .int .i64 z') (by show w.heap.size + 1 < _; omega) (by rw [hW, show w.heap.size + 1 = (w.alloc (.cells #[.int .i64 x, .int .i64 y, .int .i64 z] 57)).heap.size by simp, World.cell?_alloc_new]; rfl)
  rw [← hW]
  have HG := Lib.hid hG
  clear hW hB hz hG hb hl
  generalize w.heap.size = n0 at g1 g2 g3 g4 g5 g6 ⊢
  refine wp_region_quiet_grown hm (by kernel_rfl) ?_
  repeat (go_big_quiet_step ((first | (go_at_call 44; refine Calls.grown_of (KK.out _ _ _ _)) | (go_at_call 48; refine Calls.grown_of (KC.out _)))))
  refine wpQuiet_nil ?_
  intro _ hw'
  obtain ⟨⟨nq, osq⟩, hw''⟩ := hw'
  subst hw''
  have hE : ∃ q os', grow (W.drewN nq) osq = grow (w.drewN q) os' := by
    obtain ⟨q, os, rfl⟩ := HG.out
    exact ⟨q + nq, os ++ osq, by show grow (grow ((w.drewN q).drewN nq) os) osq = _; rw [grow_grow, World.drewN_drewN]⟩
  have HE := Lib.hid hE
  clear hE
  go_wp2
  go_ret
  exact ⟨rfl, HE.out⟩

def encE (x : Int × Int × Int) : List Value := [.int .i64 x.1, .int .i64 x.2.1, .int .i64 x.2.2]
theorem isAggE : ∀ w, (isAgg 57).run Try.prog w = .ok true w := by intro w; kernel_rfl
theorem sizeOfE : ∀ w, (Go.sizeOf 57).run Try.prog w = .ok 3 w := by intro w; kernel_rfl
theorem ltE (x y : Int × Int × Int) : ltOf (fun x y : Int × Int × Int => cmp3 x.1 y.1) x y = decide (x.1 < y.1) := by
  unfold ltOf cmp3
  by_cases h1 : x.1 < y.1
  · simp [h1]
  · by_cases h2 : y.1 < x.1 <;> simp [h1, h2]
theorem swoE : SWO (ltOf fun x y : Int × Int × Int => cmp3 x.1 y.1) where
  irrefl x := by rw [ltE]; simp
  trans x y z h1 h2 := by rw [ltE] at *; simp at *; omega
  ntrans x y z h1 h2 := by rw [ltE] at *; simp at *; omega

set_option maxHeartbeats 1000000 in
/-- Sorting the ends that lie in a block of the call's own. -/
theorem sort_any (bx blk cap : Nat) (d : Array (Int × Int × Int)) (w : World) (hb : w.cell? ⟨bx, 0, none⟩ = some (.func (.func 44) #[] #[])) (hl : bx < w.heap.size) (hne : bx ≠ blk) (hH : HoldsK encE 3 w blk 0 d) (hblk : blk < w.heap.size) (hsz : d.size < 4611686018427387904) :
    Calls Try.prog 42 #[.slice (some ⟨blk, 0, none⟩) d.size cap, .func (.func 47) #[] #[.pointer (some ⟨bx, 0, none⟩)]] w
      fun e w' => e = .returned (.tuple #[]) ∧ ∃ d' n os, PermIn 0 d.size d d' ∧ SortedIn (ltOf fun x y : Int × Int × Int => cmp3 x.1 y.1) 0 d.size d' ∧ w' = sortWorldK encE 3 w blk 0 n d' os := by
  have eg : ∀ args w, (callFunc 47 args).run Try.prog w = .ok (.enter 47 args) w := enters_of Try.func47 (by kernel_rfl) rfl
  have hcmp : CmpLays Try.prog 47 #[.pointer (some ⟨bx, 0, none⟩)] encE 3 (fun x y : Int × Int × Int => cmp3 x.1 y.1) blk 0 d.size w := by
    intro m os dk _ x y
    refine by_any x.1 x.2.1 x.2.2 y.1 y.2.1 y.2.2 bx _ ?_ ?_
    · unfold sortWorldK
      rw [cell?_grow _ _ _ (by rw [size_putRowK]; exact hl), cell?_putRowK_other _ _ _ _ _ _ _ (show bx ≠ blk from hne)]
      exact hb
    · exact Nat.lt_of_lt_of_le hl (size_sortWorldK_c encE 3 w blk 0 m dk os)
  exact AnyQ.slices_SortFunc Try.sortEnds 3 isAggE sizeOfE encE (fun _ => rfl) (fun x v hv => by simp [encE] at hv; rcases hv with rfl | rfl | rfl <;> rfl) (fun x y : Int × Int × Int => cmp3 x.1 y.1) swoE 47 #[.pointer (some ⟨bx, 0, none⟩)] blk 0 cap d w eg hcmp hH hblk hsz
end Go.Proofs.Ytomcngnfdflkkaa
