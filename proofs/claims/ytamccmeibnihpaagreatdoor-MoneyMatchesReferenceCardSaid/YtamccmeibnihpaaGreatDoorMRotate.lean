/-
  The walk of slices.rotateCmpFunc at places: two neighbours are exchanged by exchanging parts of equal length.
-/
import Derived.Test.YtamccmeibnihpaaGreatDoorMSwap
namespace Go.Proofs.YtamccmeibnihpaaGreatDoor
open Go.RowKit Go.Lib Go.Sort Go.Shelf Go.Proofs.YtamccmeibnihpaaGreatDoor.MSort

theorem rot_more {α : Type} [Inhabited α] {m i j : Nat} {d d1 d' : Array α} (hi : i ≤ m) (hj : 0 < j) (hij : j < i) (S : Swapped (m - i) m j d d1) (R : Rotated (m - (i - j)) m (m + j) d1 d') : Rotated (m - i) m (m + j) d d' := by
  refine ⟨fun k h1 h2 => ?_, fun k h1 h2 => ?_, fun k h => ?_⟩
  · rw [R.same k (Or.inl (by omega))]
    have := S.low (k - (m - i)) (by omega)
    rw [show m - i + (k - (m - i)) = k by omega, show m + (k - (m - i)) = k + (m - (m - i)) by omega] at this
    exact this
  · by_cases h3 : k < m - i + 2 * j
    · rw [R.front k (by omega) (by omega)]
      have := S.high (k - (m - i + j)) (by omega)
      rw [show m + (k - (m - i + j)) = k + (m - (m - (i - j))) by omega, show m - i + (k - (m - i + j)) = k - (m + j - m) by omega] at this
      exact this
    · rw [R.back k (by omega) (by omega)]
      rw [S.same _ (by omega) (by omega)]
      
  · rw [R.same k (by omega), S.same k (by omega) (by omega)]

theorem rot_less {α : Type} [Inhabited α] {m i j : Nat} {d d1 d' : Array α} (hi : i ≤ m) (h0 : 0 < i) (hij : i < j) (S : Swapped (m - i) (m + j - i) i d d1) (R : Rotated (m - i) m (m + (j - i)) d1 d') : Rotated (m - i) m (m + j) d d' := by
  refine ⟨fun k h1 h2 => ?_, fun k h1 h2 => ?_, fun k h => ?_⟩
  · by_cases h3 : k < m - i + (j - i)
    · rw [R.front k (by omega) (by omega)]
      rw [S.same _ (by omega) (by omega)]
    · rw [R.back k (by omega) (by omega)]
      have := S.low (k - (m - i + (j - i))) (by omega)
      rw [show m - i + (k - (m - i + (j - i))) = k - (m + (j - i) - m) by omega, show m + j - i + (k - (m - i + (j - i))) = k + (m - (m - i)) by omega] at this
      exact this
  · rw [R.same k (Or.inr (by omega))]
    have := S.high (k - (m + j - i)) (by omega)
    rw [show m + j - i + (k - (m + j - i)) = k by omega, show m - i + (k - (m + j - i)) = k - (m + j - m) by omega] at this
    exact this
  · rw [R.same k (by omega), S.same k (by omega) (by omega)]

theorem rot_same {α : Type} [Inhabited α] {m i : Nat} {d d' : Array α} (hi : i ≤ m) (S : Swapped (m - i) m i d d') : Rotated (m - i) m (m + i) d d' := by
  refine ⟨fun k h1 h2 => ?_, fun k h1 h2 => ?_, fun k h => ?_⟩
  · have := S.low (k - (m - i)) (by omega)
    rw [show m - i + (k - (m - i)) = k by omega, show m + (k - (m - i)) = k + (m - (m - i)) by omega] at this
    exact this
  · have := S.high (k - m) (by omega)
    rw [show m + (k - m) = k by omega, show m - i + (k - m) = k - (m + i - m) by omega] at this
    exact this
  · exact S.same k (by omega) (by omega)

variable {n : Nat}

theorem swapRange_at (g : Nat) (cb : Array Value) (blk off cap : Nat) (a b m : Nat) (A B M : Int) (sz : Nat) (d0 d : Array (Fin (n + 1))) (w0 w : World)
    (R : Row1 en w0 blk off d0) (hs : d0.size = sz) (S : SW en w0 blk off d w) (hd : d.size = sz) (hA : A = (a : Int)) (hB : B = (b : Int)) (hM : M = (m : Int)) (hab : a + m ≤ b) (hb : b + m ≤ sz) (hsz : sz < 4611686018427387904) :
    Calls Tryz.prog 101 #[.slice (some ⟨blk, off, none⟩) sz cap, .int .i64 A, .int .i64 B, .int .i64 M, .func (.func g) #[] cb] w fun e w' =>
      e = .returned (.tuple #[]) ∧ ∃ d', Swapped a b m d d' ∧ SW en w0 blk off d' w' := by
  subst hA hB hM hd
  exact swapRange_any g cb blk off cap a b m d0 d w0 w R hs S hab hb hsz

/-- What is left to be exchanged leads to the whole exchange. -/
def Leads {α : Type} [Inhabited α] (a m b i j : Nat) (d dk : Array α) : Prop := ∀ d', Rotated (m - i) m (m + j) dk d' → Rotated a m b d d'

set_option maxHeartbeats 4000000 in
set_option maxRecDepth 1000000 in
theorem rotate_any (g : Nat) (cb : Array Value) (blk off cap a m b : Nat) (sz : Nat) (d0 d : Array (Fin (n + 1))) (w0 w : World)
    (R : Row1 en w0 blk off d0) (hs : d0.size = sz) (S : SW en w0 blk off d w) (hd : d.size = sz) (ham : a < m) (hmb : m < b) (hb : b ≤ sz) (hsz : sz < 4611686018427387904) :
    Calls Tryz.prog 96 #[.slice (some ⟨blk, off, none⟩) sz cap, .int .i64 a, .int .i64 m, .int .i64 b, .func (.func g) #[] cb] w fun e w' =>
      e = .returned (.tuple #[]) ∧ ∃ d', Rotated a m b d d' ∧ PermIn a b d d' ∧ SW en w0 blk off d' w' := by
  have S0 : Aside (SW en w0 blk off d w) := S
  have HD : Hid (d.size = sz) := hd
  have L0 : Aside (Leads a m b (m - a) (b - m) d d) := fun d' h => by rw [show m - (m - a) = a by omega, show m + (b - m) = b by omega] at h; exact h
  clear S hd
  go_enter Tryz.func96, Tryz.ntmps96
  go_wp2
  go_loopg [10, 11] (b - a) (fun k vi vj wr => ∃ (i j : Nat) (dk : Array (Fin (n + 1))), vi = .int .i64 i ∧ vj = .int .i64 j ∧ 0 < i ∧ 0 < j ∧ i ≤ m - a ∧ j ≤ b - m ∧ i + j ≤ k ∧ Aside (Leads a m b i j d dk) ∧ Aside (PermIn a b d dk) ∧ Aside (SW en w0 blk off dk wr))
  case atStart => exact ⟨m - a, b - m, d, by congr 1; omega, by congr 1; omega, by omega, by omega, by omega, by omega, by omega, L0, permIn_refl d a b, S0⟩
  case round =>
    clear S0 L0
    obtain ⟨i, j, dk, rfl, rfl, hi0, hj0, him, hjm, hk, HL, HP, S1⟩ := hrel
    by_cases hij : i = j
    · subst hij
      have hc := swapRange_at (n := n) g cb blk off cap (m - i) m i ((m : Int) - (i : Int)) m i sz d0 dk w0 wr R hs S1.out (by rw [HP.out.1, HD.out]) (by omega) rfl rfl (by omega) (by omega) hsz
      have HC := Lib.hid hc
      clear hc S1
      go_wp2_with fail
      refine HC.out.mono ?_
      rintro e w' ⟨rfl, d', hS, hW⟩
      have KS : Aside _ := hS
      have KW : Aside _ := hW
      clear hS hW HC
      go_wp2
      go_end0
      refine ⟨rfl, d', HL.out d' (rot_same (by omega) KS.out), permIn_trans _ _ _ a b HP.out (Swapped.perm _ _ _ _ _ a b KS.out (by omega) (by omega) (by omega) (by rw [HP.out.1, HD.out]; exact hb)), KW.out⟩
    · have hz : ((i : Int) != (j : Int)) = true := by simp; omega
      by_cases hlt : j < i
      · have hltz : (j : Int) < (i : Int) := by omega
        have hc := swapRange_at (n := n) g cb blk off cap (m - i) m j ((m : Int) - (i : Int)) m j sz d0 dk w0 wr R hs S1.out (by rw [HP.out.1, HD.out]) (by omega) rfl rfl (by omega) (by omega) hsz
        have HC := Lib.hid hc
        clear hc S1
        go_wp2_with fail
        refine HC.out.mono ?_
        rintro e w' ⟨rfl, d', hS, hW⟩
        have KS : Aside _ := hS
        have KW : Aside _ := hW
        clear hS hW HC
        go_wp2
        go_roundg (i - j + j)
        case measure => omega
        case rel =>
          refine ⟨i - j, j, d', by congr 1; omega, rfl, by omega, by omega, by omega, by omega, by omega, ?_, permIn_trans _ _ _ a b HP.out (Swapped.perm _ _ _ _ _ a b KS.out (by omega) (by omega) (by omega) (by rw [HP.out.1, HD.out]; exact hb)), KW⟩
          exact (show Leads _ _ _ _ _ _ _ from fun d'' h => HL.out d'' (rot_more (by omega) hj0 hlt KS.out h))
      · have hltz : ¬ (j : Int) < (i : Int) := by omega
        have hc := swapRange_at (n := n) g cb blk off cap (m - i) (m + j - i) i ((m : Int) - (i : Int)) ((m : Int) + (j : Int) - (i : Int)) i sz d0 dk w0 wr R hs S1.out (by rw [HP.out.1, HD.out]) (by omega) (by omega) rfl (by omega) (by omega) hsz
        have HC := Lib.hid hc
        clear hc S1
        go_wp2_with fail
        refine HC.out.mono ?_
        rintro e w' ⟨rfl, d', hS, hW⟩
        have KS : Aside _ := hS
        have KW : Aside _ := hW
        clear hS hW HC
        go_wp2
        go_roundg (i + (j - i))
        case measure => omega
        case rel =>
          refine ⟨i, j - i, d', rfl, by congr 1; omega, by omega, by omega, by omega, by omega, by omega, ?_, permIn_trans _ _ _ a b HP.out (Swapped.perm _ _ _ _ _ a b KS.out (by omega) (by omega) (by omega) (by rw [HP.out.1, HD.out]; exact hb)), KW⟩
          exact (show Leads _ _ _ _ _ _ _ from fun d'' h => HL.out d'' (rot_less (by omega) hi0 (by omega) KS.out h))
end Go.Proofs.YtamccmeibnihpaaGreatDoor
