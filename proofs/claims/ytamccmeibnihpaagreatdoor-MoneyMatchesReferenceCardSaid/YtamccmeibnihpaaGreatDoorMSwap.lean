/-
  The walks of slices.swapRangeCmpFunc and slices.rotateCmpFunc, at places: two parts that lie apart are exchanged, place by place; two neighbours are exchanged.
-/
import Derived.Test.YtamccmeibnihpaaGreatDoorMSortKit
import Derived.Sort.WalkB2
import Derived.Sort.WalkB12
import Derived.BigRegion
namespace Go.Proofs.YtamccmeibnihpaaGreatDoor
open Go.RowKit Go.Lib Go.Sort Go.Shelf Go.Proofs.YtamccmeibnihpaaGreatDoor.MSort

/-- [a, a + n) and [b, b + n) are exchanged. -/
structure Swapped {α : Type} [Inhabited α] (a b n : Nat) (d d' : Array α) : Prop where
  size : d'.size = d.size
  low : ∀ k, k < n → d'[a + k]! = d[b + k]!
  high : ∀ k, k < n → d'[b + k]! = d[a + k]!
  same : ∀ k, (k < a ∨ a + n ≤ k) → (k < b ∨ b + n ≤ k) → d'[k]! = d[k]!

theorem Swapped.zero {α : Type} [Inhabited α] (a b : Nat) (d : Array α) : Swapped a b 0 d d := ⟨rfl, fun k h => by omega, fun k h => by omega, fun _ _ _ => rfl⟩

theorem Swapped.step {α : Type} [Inhabited α] {a b n : Nat} {d d' : Array α} (h : Swapped a b n d d') (hab : a + n < b) (hb : b + n < d.size) (hl : b + n < d.size) : Swapped a b (n + 1) d (swp d' (a + n) (b + n)) := by
  have g := swp_get d' (i := a + n) (j := b + n) (by rw [h.size]; omega) (by rw [h.size]; omega)
  refine ⟨by rw [swp_size, h.size], fun k hk => ?_, fun k hk => ?_, fun k h1 h2 => ?_⟩
  · rw [g]
    by_cases e : k = n
    · subst e
      rw [if_neg (by omega), if_pos rfl]
      exact h.same _ (by omega) (by omega)
    · rw [if_neg (by omega), if_neg (by omega)]
      exact h.low k (by omega)
  · rw [g]
    by_cases e : k = n
    · subst e
      rw [if_pos rfl]
      exact h.same _ (by omega) (by omega)
    · rw [if_neg (by omega), if_neg (by omega)]
      exact h.high k (by omega)
  · rw [g, if_neg (by omega), if_neg (by omega)]
    exact h.same k (by omega) (by omega)

theorem Swapped.perm {α : Type} [Inhabited α] : ∀ (n : Nat) (a b : Nat) (d d' : Array α) (lo hi : Nat), Swapped a b n d d' → a + n ≤ b → lo ≤ a → b + n ≤ hi → hi ≤ d.size → PermIn lo hi d d'
  | 0, a, b, d, d', lo, hi, h, _, _, _, _ => by
    have e : d' = d := by
      apply Array.ext
      · exact h.size
      · intro i h1 h2
        have := h.same i (by omega) (by omega)
        rw [getElem!_pos d' i h1, getElem!_pos d i h2] at this
        exact this
    rw [e]; exact permIn_refl d lo hi
  | n + 1, a, b, d, d', lo, hi, h, h1, h2, h3, h4 => by
    -- the last exchange is taken back
    have g := swp_get d' (i := a + n) (j := b + n) (by rw [h.size]; omega) (by rw [h.size]; omega)
    have s : Swapped a b n d (swp d' (a + n) (b + n)) := by
      refine ⟨by rw [swp_size, h.size], fun k hk => ?_, fun k hk => ?_, fun k x y => ?_⟩
      · rw [g, if_neg (by omega), if_neg (by omega)]; exact h.low k (by omega)
      · rw [g, if_neg (by omega), if_neg (by omega)]; exact h.high k (by omega)
      · rw [g]
        by_cases e : k = b + n
        · subst e; rw [if_pos rfl]; exact h.low n (by omega)
        · rw [if_neg e]
          by_cases e2 : k = a + n
          · subst e2; rw [if_pos rfl]; exact h.high n (by omega)
          · rw [if_neg e2]; exact h.same k (by omega) (by omega)
    have p := Swapped.perm n a b d _ lo hi s (by omega) h2 (by omega) h4
    have q := swp_permIn (swp d' (a + n) (b + n)) lo hi (a + n) (b + n) (by omega) (by omega) (by omega) (by omega) (by rw [p.1]; exact h4)
    have e : swp (swp d' (a + n) (b + n)) (a + n) (b + n) = d' := by
      apply Array.ext
      · rw [swp_size, swp_size]
      · intro i x y
        have gg := swp_get (swp d' (a + n) (b + n)) (i := a + n) (j := b + n) (by rw [swp_size, h.size]; omega) (by rw [swp_size, h.size]; omega) i
        rw [getElem!_pos _ i x] at gg
        rw [gg, g, g, g]
        rw [getElem!_pos d' i y]
        by_cases e : i = b + n
        · subst e; rw [if_pos rfl, if_neg (by omega), if_pos rfl]; exact getElem!_pos d' _ y
        · rw [if_neg e]
          by_cases e2 : i = a + n
          · subst e2; rw [if_pos rfl, if_pos rfl]; exact getElem!_pos d' _ y
          · rw [if_neg e2, if_neg e, if_neg e2]
    rw [e] at q
    exact permIn_trans _ _ _ lo hi p q

variable {n : Nat}

set_option maxHeartbeats 4000000 in
set_option maxRecDepth 1000000 in
theorem swapRange_any (g : Nat) (cb : Array Value) (blk off cap a b m : Nat) (d0 d : Array (Fin (n + 1))) (w0 w : World)
    (R : Row1 en w0 blk off d0) (hs : d0.size = d.size) (S : SW en w0 blk off d w) (hab : a + m ≤ b) (hb : b + m ≤ d.size) (hsz : d.size < 4611686018427387904) :
    Calls Tryz.prog 101 #[.slice (some ⟨blk, off, none⟩) d.size cap, .int .i64 a, .int .i64 b, .int .i64 m, .func (.func g) #[] cb] w fun e w' =>
      e = .returned (.tuple #[]) ∧ ∃ d', Swapped a b m d d' ∧ SW en w0 blk off d' w' := by
  have S0 : Aside (SW en w0 blk off d w) := S
  clear S
  go_enter Tryz.func101, Tryz.ntmps101
  go_wp2
  go_loopg [10] m (fun k vi wr => ∃ (i : Nat) (dk : Array (Fin (n + 1))), vi = .int .i64 i ∧ i ≤ m ∧ m - i ≤ k ∧ Aside (Swapped a b i d dk) ∧ Aside (SW en w0 blk off dk wr))
  case atStart => exact ⟨0, d, rfl, by omega, by omega, Swapped.zero a b d, S0⟩
  case round =>
    clear S0
    obtain ⟨i, dk, rfl, him, hk, HW, S1⟩ := hrel
    have hsk : dk.size = d.size := HW.out.size
    by_cases hlt : i < m
    · have hltz : (i : Int) < (m : Int) := by omega
      obtain ⟨iN, hiN⟩ : ∃ q, q = a + i := ⟨_, rfl⟩
      obtain ⟨jN, hjN⟩ : ∃ q, q = b + i := ⟨_, rfl⟩
      have ea : ((a : Int) + (i : Int)).toNat = iN := by omega
      have pa : (0 : Int) ≤ (a : Int) + (i : Int) := by omega
      have ba : (a : Int) + (i : Int) < (d.size : Int) := by omega
      have ra : IntKind.i64.wrap ((a : Int) + (i : Int)) = (a : Int) + (i : Int) := by rw [IntKind.wrap_i64]; omega
      have ec : ((b : Int) + (i : Int)).toNat = jN := by omega
      have pc : (0 : Int) ≤ (b : Int) + (i : Int) := by omega
      have bc : (b : Int) + (i : Int) < (d.size : Int) := by omega
      have rc : IntKind.i64.wrap ((b : Int) + (i : Int)) = (b : Int) + (i : Int) := by rw [IntKind.wrap_i64]; omega
      obtain ⟨x, hx⟩ : ∃ x, x = dk[a + i]! := ⟨_, rfl⟩
      obtain ⟨y, hy⟩ : ∃ x, x = dk[b + i]! := ⟨_, rfl⟩
      have S2 : Aside (SW en w0 blk off (swp dk (a + i) (b + i)) ((wr.setCell ⟨blk, off + iN, none⟩ (en y)).setCell ⟨blk, off + jN, none⟩ (en x)).drew) := by rw [hiN, hjN, hx, hy]; exact S1.out.swapped R (a + i) (b + i) (by omega) (by omega)
      have c1a := S1.out.c1 R (by omega) (a + i) (by omega)
      have c1b := S1.out.c1 R (by omega) (b + i) (by omega)
      have f1a := S1.out.f1 R (by omega) (a + i) (by omega)
      have f1b := S1.out.f1 R (by omega) (b + i) (by omega)
      obtain ⟨u, c1c⟩ := S1.out.c2 R (by omega) (a + i) (b + i) (by omega) (by omega) (en y)
      rw [← hjN, ← hiN] at c1c
      rw [← hx, ← hiN] at c1a
      rw [← hy, ← hjN] at c1b
      rw [← hiN] at f1a
      rw [← hjN] at f1b
      clear S1 hx hy hiN hjN hsk
      unfold en at c1a c1b c1c S2
      go_wp2_with fail
      go_big_region
      clear c1a c1b c1c f1a f1b
      generalize ((wr.setCell ⟨blk, off + iN, none⟩ _).setCell ⟨blk, off + jN, none⟩ _).drew = w3 at S2 ⊢
      clear ea ec
      go_wp2
      go_roundg (m - (i + 1))
      case measure => omega
      case rel => exact ⟨i + 1, _, by go_num, by omega, by omega, HW.out.step (by omega) (by omega) (by omega), S2⟩
    · have hltz : ¬ (i : Int) < (m : Int) := by omega
      obtain rfl : i = m := by omega
      go_wp2
      go_end0
      exact ⟨rfl, dk, HW.out, S1.out⟩
end Go.Proofs.YtamccmeibnihpaaGreatDoor
