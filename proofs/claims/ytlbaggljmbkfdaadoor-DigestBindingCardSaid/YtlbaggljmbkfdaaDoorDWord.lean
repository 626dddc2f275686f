/-
  The bytes of a number: contracts of wordOf and eight.
-/
import Derived.Test.YtlbaggljmbkfdaaDoorDSum
namespace Go.Proofs.YtlbaggljmbkfdaaDoor
open Go.RowKit Dg

/-- The byte at a place. -/
def byA (n j : Nat) : Nat := n / 2 ^ (8 * (7 - j)) % 256
theorem byA_at (n : Nat) : ∀ (k : Nat) (h : k < (by8 n).length), byA n k = (by8 n)[k]
  | 0, _ => rfl
  | 1, _ => rfl
  | 2, _ => rfl
  | 3, _ => rfl
  | 4, _ => rfl
  | 5, _ => rfl
  | 6, _ => rfl
  | 7, _ => by simp [byA, by8]
  | k + 8, h => by simp [by8] at h; omega
theorem zero8' : ∀ i, i < (#[Value.int .u8 0, .int .u8 0, .int .u8 0, .int .u8 0, .int .u8 0, .int .u8 0, .int .u8 0, .int .u8 0] : Array Value).size → (#[Value.int .u8 0, .int .u8 0, .int .u8 0, .int .u8 0, .int .u8 0, .int .u8 0, .int .u8 0, .int .u8 0] : Array Value)[i]? = some (u8v 0)
  | 0, _ => rfl
  | 1, _ => rfl
  | 2, _ => rfl
  | 3, _ => rfl
  | 4, _ => rfl
  | 5, _ => rfl
  | 6, _ => rfl
  | 7, _ => rfl
  | k + 8, h => by simp at h; omega
theorem agg8 (n : Nat) : (Value.agg ((by8 n).map u8v).toArray) = .agg #[.int .u8 (byA n 0 : Nat), .int .u8 (byA n 1 : Nat), .int .u8 (byA n 2 : Nat), .int .u8 (byA n 3 : Nat), .int .u8 (byA n 4 : Nat), .int .u8 (byA n 5 : Nat), .int .u8 (byA n 6 : Nat), .int .u8 (byA n 7 : Nat)] := by
  simp [by8, byA, u8v]
/-- The bytes that are written. -/
def wF (n k j : Nat) : Value := if 8 - k ≤ j then u8v (byA n j) else u8v 0
theorem zero8 {n : Nat} : ∀ i, i < (#[Value.int .u8 0, .int .u8 0, .int .u8 0, .int .u8 0, .int .u8 0, .int .u8 0, .int .u8 0, .int .u8 0] : Array Value).size → (#[Value.int .u8 0, .int .u8 0, .int .u8 0, .int .u8 0, .int .u8 0, .int .u8 0, .int .u8 0, .int .u8 0] : Array Value)[i]? = some (wF n 0 i) := fun i hi => by
  rw [zero8' i hi]
  unfold wF
  rw [if_neg (by simp at hi; omega)]
set_option maxRecDepth 100000 in
set_option maxHeartbeats 400000 in
theorem word_any (n : Nat) (w : World) :
    Calls Tryd.prog 46 #[.int .u64 n] w fun e w' => e = .returned (.agg ((by8 n).map u8v).toArray) ∧ RowKit.Below w.heap.size w w' := by
  go_enter Tryd.func46, Tryd.ntmps46
  go_wp2_with fail
  go_loopg [5] 8 (fun g s5 wr => ∃ k : Nat, s5 = .int .i64 k ∧ k ≤ 8 ∧ 8 - k ≤ g ∧ Hid (wr.rowIs (w.heap.size + 1) 58 8 (wF n k)) ∧ Hid (wr.rowIs w.heap.size 58 8 (fun _ => u8v 0)) ∧ Hid (RowKit.Below w.heap.size w wr))
  case atStart => exact ⟨0, rfl, by omega, by omega, by
      have h := World.rowIs_alloc (w.alloc (.cells #[.int .u8 0, .int .u8 0, .int .u8 0, .int .u8 0, .int .u8 0, .int .u8 0, .int .u8 0, .int .u8 0] 58)) #[.int .u8 0, .int .u8 0, .int .u8 0, .int .u8 0, .int .u8 0, .int .u8 0, .int .u8 0, .int .u8 0] 58 (wF n 0) zero8
      rw [World.size_alloc] at h
      exact h, (World.rowIs_alloc w #[.int .u8 0, .int .u8 0, .int .u8 0, .int .u8 0, .int .u8 0, .int .u8 0, .int .u8 0, .int .u8 0] 58 (fun _ => u8v 0) zero8').alloc _, show RowKit.Below _ _ _ from (by repeat' (first | (with_reducible refine Below.setCell ?_ ?_ _) | (with_reducible refine Below.alloc ?_ ?_ _) | (with_reducible refine Below.drew ?_) | (with_reducible refine below_drewN ?_ _) | (with_reducible exact Below.refl _ _) | omega | (simp; done) | (simp; omega)))⟩
  case round =>
    obtain ⟨k, rfl, hk, hkg, HR, HZ, HB⟩ := hrel
    by_cases hlt : k < 8
    · have hltz : (k : Int) < 8 := by omega
      have hc := HR.out.cell (i := 7 - k) (by omega)
      have hf := HR.out.frozen (7 - k)
      have E : (n : Int) / 2 ^ (8 * k) % 256 = ((byA n (7 - k) : Nat) : Int) := by
        unfold byA
        rw [show 7 - (7 - k) = k by omega]
        simp
      have H2 : Hid ((wr.setCell ⟨w.heap.size + 1, 7 - k, none⟩ (.int .u8 (byA n (7 - k) : Nat))).rowIs (w.heap.size + 1) 58 8 (wF n (k + 1))) := by
        refine World.rowIs.congr (HR.out.set (7 - k) _) fun j hj => ?_
        unfold wF
        by_cases e : j = 7 - k
        · rw [if_pos e, if_pos (by omega), e]; rfl
        · rw [if_neg e]
          by_cases e2 : 8 - k ≤ j
          · rw [if_pos e2, if_pos (by omega)]
          · rw [if_neg e2, if_neg (by omega)]
      rw [← E] at H2
      have H3 := Lib.hid H2
      clear H2 E
      go_wp2
      go_roundg (8 - (k + 1))
      case measure => omega
      case rel => exact ⟨k + 1, by go_num, by omega, by omega, H3.out.out, HZ.out.setOther (by simp) _, HB.out.setCell (by simp) _⟩
    · have hltz : ¬ (k : Int) < 8 := by omega
      obtain rfl : k = 8 := by omega
      have d : ∀ j, j < 8 → wr.cell? ⟨w.heap.size + 1, j, none⟩ = some (.int .u8 (byA n j : Nat)) := fun j hj => by
        have := HR.out.cell hj
        unfold wF at this
        rw [if_pos (by omega)] at this
        exact this
      have d0 := d 0 (by omega)
      have d1 := d 1 (by omega)
      have d2 := d 2 (by omega)
      have d3 := d 3 (by omega)
      have d4 := d 4 (by omega)
      have d5 := d 5 (by omega)
      have d6 := d 6 (by omega)
      have d7 := d 7 (by omega)
      have z : ∀ j, j < 8 → wr.cell? ⟨w.heap.size, j, none⟩ = some (.int .u8 0) := fun j hj => HZ.out.cell hj
      have z0 := z 0 (by omega)
      have z1 := z 1 (by omega)
      have z2 := z 2 (by omega)
      have z3 := z 3 (by omega)
      have z4 := z 4 (by omega)
      have z5 := z 5 (by omega)
      have z6 := z 6 (by omega)
      have z7 := z 7 (by omega)
      have f0 := HZ.out.frozen 0
      have f1 := HZ.out.frozen 1
      have f2 := HZ.out.frozen 2
      have f3 := HZ.out.frozen 3
      have f4 := HZ.out.frozen 4
      have f5 := HZ.out.frozen 5
      have f6 := HZ.out.frozen 6
      have f7 := HZ.out.frozen 7
      clear d z hltz hlt
      have E := Lib.hid (agg8 n)
      generalize byA n 0 = x0 at *
      generalize byA n 1 = x1 at *
      generalize byA n 2 = x2 at *
      generalize byA n 3 = x3 at *
      generalize byA n 4 = x4 at *
      generalize byA n 5 = x5 at *
      generalize byA n 6 = x6 at *
      generalize byA n 7 = x7 at *
      go_wp2
      refine bodyPost_ret (v := .agg #[.int .u8 x0, .int .u8 x1, .int .u8 x2, .int .u8 x3, .int .u8 x4, .int .u8 x5, .int .u8 x6, .int .u8 x7]) (by simp [results, Tryd.results46, go_sem, z0, z1, z2, z3, z4, z5, z6, z7]) rfl ?_
      refine ⟨by rw [E.out], ?_⟩
      exact (((((((HB.out.setCell (by simp) _).setCell (by simp) _).setCell (by simp) _).setCell (by simp) _).setCell (by simp) _).setCell (by simp) _).setCell (by simp) _).setCell (by simp) _
end Go.Proofs.YtlbaggljmbkfdaaDoor
