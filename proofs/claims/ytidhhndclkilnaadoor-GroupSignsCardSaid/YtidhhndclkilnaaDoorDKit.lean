/-
  What the walks of layer 6 share: slices that read as lists, regions whose callees make memory, rows of a call's own.
-/
import Derived.Test.YtidhhndclkilnaaDoorProg
import Derived.Test.YtidhhndclkilnaaDoorDMath
import Derived.WalkKit
import Derived.WalkSpells
import Derived.WalkLawsBesides
import Derived.Lib.Hide
import Derived.Deep.Draws
import Derived.Deep.LoopGhost
import Derived.Deep.QuietTactic
import Derived.Deep.OwnRows
import Derived.BigQuiet
import Derived.Shelf.SlSortCmp.QuietGrown
import Derived.Laws.Bits64
namespace Go.Proofs.YtidhhndclkilnaaDoor
open Go.RowKit Dg

/-- The worlds behind w in which all that lay lies as it lay. -/
structure Bw (w : World) where
  w' : World
  h : RowKit.Below w.heap.size w w'
instance (w : World) : Inhabited (Bw w) := ⟨⟨w, Below.refl _ _⟩⟩
theorem mixed : Tryd.prog.follows .mixedOrders = true := by kernel_rfl
/-- A region whose order is open, whose operations read, and whose callees make memory of their own: one walk in the text's order. -/
theorem wp_region_bw {P : Program} {id : Nat} {Q : Exit → Act → World → Prop} {a : Act} {w : World} {l : List Oper} (hm : P.follows .mixedOrders = true) (hB : Region.lexB .any l.toArray = true)
    (h : wpQuiet P l.toArray (fun w' => ∃ p : Bw w, w' = p.w') (fun a' => ∀ w', (∃ p : Bw w, w' = p.w') → Q .normal a' w') l a) : (Code.region id l.toArray true).wp P Q a w :=
  wp_region_quiet (C := fun w' => ∃ p : Bw w, w' = p.w') hm hB ⟨⟨_, (Below.refl _ w).drew⟩, rfl⟩ (by simpa using h)
theorem bw_out {w w' : World} (h : ∃ p : Bw w, w' = p.w') : RowKit.Below w.heap.size w w' := by obtain ⟨p, rfl⟩ := h; exact p.h
theorem cell_bw {w : World} {a : Addr} {v : Value} (hb : a.block < w.heap.size) (h : w.cell? a = some v) : ∀ p : Bw w, p.w'.cell? a = some v := fun p => (p.h.cell hb).trans h
theorem Calls.bw_of {P : Program} {f : FuncId} {args : Array Value} {w : World} {p : Bw w} {v : Value}
    (h : Calls P f args p.w' fun e w' => e = .returned v ∧ RowKit.Below p.w'.heap.size p.w' w') : Calls P f args p.w' fun e w'' => e = .returned v ∧ ∃ q : Bw w, w'' = q.w' :=
  h.mono fun _ w' ⟨he, hb⟩ => ⟨he, ⟨w', p.h.trans (hb.mono p.h.size)⟩, rfl⟩
theorem ret_bool {a b : Bool} (h : a = b) : Ending.returned (.bool a) = .returned (.bool b) := by rw [h]
theorem ret_i64 {a b : Int} (h : a = b) : Ending.returned (.int .i64 a) = .returned (.int .i64 b) := by rw [h]
theorem ret_u64 {a b : Int} (h : a = b) : Ending.returned (.int .u64 a) = .returned (.int .u64 b) := by rw [h]

theorem addr_add (b off i : Nat) : (⟨b, off, none⟩ : Addr).add i = ⟨b, off + i, none⟩ := by unfold Addr.add; split <;> simp_all

/-! ### Slices that read as lists -/
def u8v (n : Nat) : Value := .int .u8 n
def u64v (n : Nat) : Value := .int .u64 n
def i64v (n : Int) : Value := .int .i64 n
/-- A slice reads as a list. -/
structure SlF {α : Type} (f : α → Value) (w : World) (p : Option Addr) (b off len : Nat) (l : List α) : Prop where
  ln : l.length = len
  ptr : 0 < len → p = some ⟨b, off, none⟩
  cells : ∀ (k : Nat) (h : k < l.length), w.cell? ⟨b, off + k, none⟩ = some (f l[k])
  lt : 0 < len → b < w.heap.size
  max : len ≤ 9223372036854775807
theorem SlF.below {α : Type} {f : α → Value} {w w1 : World} {p : Option Addr} {b off len : Nat} {l : List α} (h : SlF f w p b off len l) {B : Nat} (hB : RowKit.Below B w w1) (hb : 0 < len → b < B) : SlF f w1 p b off len l :=
  ⟨h.ln, h.ptr, fun k hk => (hB.cell (p := ⟨b, off + k, none⟩) (hb (by have := h.ln; omega))).trans (h.cells k hk), fun x => Nat.lt_of_lt_of_le (h.lt x) hB.size, h.max⟩
theorem SlF.bel {α : Type} {f : α → Value} {w w1 : World} {p : Option Addr} {b off len : Nat} {l : List α} (h : SlF f w p b off len l) (hB : RowKit.Below w.heap.size w w1) : SlF f w1 p b off len l := h.below hB h.lt
theorem SlF.nil {α : Type} {f : α → Value} (w : World) (p : Option Addr) : SlF f w p 0 0 0 ([] : List α) := ⟨rfl, fun h => by omega, fun k h => by simp at h, fun h => by omega, by omega⟩
theorem SlF.row {α : Type} {f : α → Value} {w : World} {g n : Nat} {t : TypeId} {l : List α} {F : Nat → Value} (h : w.rowIs g t n F) (hl : l.length = n) (hm : n ≤ 9223372036854775807) (hF : ∀ (k : Nat) (h : k < l.length), F k = f l[k]) : SlF f w (some ⟨g, 0, none⟩) g 0 n l :=
  ⟨hl, fun _ => rfl, fun k hk => by rw [Nat.zero_add, h.cell (by omega), hF k hk], fun _ => h.lt, hm⟩

theorem xor_step (h c : Nat) (hh : h < 18446744073709551616) (hc : c < 18446744073709551616) : IntKind.u64.wrap (bits .xor .u64 (h : Int) (c : Int) * 1099511628211) = ((stp h c : Nat) : Int) := by
  rw [bits_xor_u64_nat h c hh hc, IntKind.wrap_u64, stp_def]
  omega
theorem dgF_take {l : List Nat} {h k : Nat} (hk : k < l.length) : dgF h (l.take (k + 1)) = stp (dgF h (l.take k)) l[k] := by
  rw [List.take_succ_eq_append_getElem hk, dgF_app]; rfl
end Go.Proofs.YtidhhndclkilnaaDoor
