/-
  What the walks of layer 7 share: regions whose callees make memory, blocks of two cells, worlds in which one block alone may have changed.
-/
import Derived.Test.YtoaeceeookknnaaDoorProg
import Derived.Test.YtoaeceeookknnaaDoorLMath2
import Derived.WalkKit
import Derived.WalkSpells
import Derived.WalkLawsBesides
import Derived.Lib.Hide
import Derived.Lib.IndexBytes
import Derived.Deep.Draws
import Derived.Deep.LoopGhost
import Derived.Deep.QuietTactic
import Derived.Deep.OwnRows
import Derived.Deep.AppendLies
import Derived.BigQuiet
import Derived.OwnWalkIn
import Derived.Laws.OwnMore
import Derived.Shelf.SlSortCmp.QuietGrown
import Derived.Defers
import Derived.Recover
import Derived.Laws.Pointers
namespace Go.Proofs.YtoaeceeookknnaaDoor
open Go.RowKit Lx

/-- The worlds behind w in which all that lay lies as it lay. -/
structure Bw (w : World) where
  w' : World
  h : RowKit.Below w.heap.size w w'
instance (w : World) : Inhabited (Bw w) := ⟨⟨w, Below.refl _ _⟩⟩
theorem mixed : Tryd.prog.follows .mixedOrders = true := by kernel_rfl
/-- A region whose order is open, whose operations read, and whose callees make memory of their own: one walk in the text's order. -/
theorem wp_region_bw {P : Program} {id : Nat} {Q : Exit → Act → World → Prop} {a : Act} {w : World} {l : List Oper} (hm : P.follows .mixedOrders = true) (hB : Region.lexB .any l.toArray = true)
    (h : wpQuiet P l.toArray (fun w' => ∃ p : Bw w, w' = p.w') (fun a' => ∀ w', (∃ p : Bw w, w' = p.w') → Q .normal a' w') l a) : (Code.region id l.toArray true).wp P Q a w :=
  wp_region_quiet (C := fun w' => ∃ p : Bw w, w' = p.w') hm hB ⟨⟨_, (Below.refl _ w).drew⟩, rfl⟩ (by simpa using h)
theorem bw_out {w w' : World} (h : ∃ p : Bw w, w' = p.w') : RowKit.Below w.heap.size w w' := by obtain ⟨p, rfl⟩ := h; exact p.h
theorem cell_bw {w : World} {a : Addr} {v : Value} (hb : a.block < w.heap.size) (h : w.cell? a = some v) : ∀ p : Bw w, p.w'.cell? a = some v := fun p => (p.h.cell hb).trans h
theorem Calls.bw_of {P : Program} {f : FuncId} {args : Array Value} {w : World} {p : Bw w} {v : Value}
    (h : Calls P f args p.w' fun e w' => e = .returned v ∧ RowKit.Below p.w'.heap.size p.w' w') : Calls P f args p.w' fun e w'' => e = .returned v ∧ ∃ q : Bw w, w'' = q.w' :=
  h.mono fun _ w' ⟨he, hb⟩ => ⟨he, ⟨w', p.h.trans (hb.mono p.h.size)⟩, rfl⟩
theorem ret_bool {a b : Bool} (h : a = b) : Ending.returned (.bool a) = .returned (.bool b) := by rw [h]
theorem ret_i64 {a b : Int} (h : a = b) : Ending.returned (.int .i64 a) = .returned (.int .i64 b) := by rw [h]
theorem ret_str {a b : ByteArray} (h : a = b) : Ending.returned (.string a) = .returned (.string b) := by rw [h]
theorem addr_add (b off i : Nat) : (⟨b, off, none⟩ : Addr).add i = ⟨b, off + i, none⟩ := by unfold Addr.add; split <;> simp_all

/-! ### Strings as lists -/
def bs (l : List UInt8) : ByteArray := ⟨l.toArray⟩
theorem bs_of (s : ByteArray) : s = bs s.data.toList := by apply ByteArray.ext; simp [bs]
theorem bs_list (l : List UInt8) : (bs l).toList = l := by rw [Lib.toList_data]; simp [bs]
theorem bs_data (l : List UInt8) : (bs l).data.toList = l := by simp [bs]
theorem bs_size (l : List UInt8) : (bs l).size = l.length := by simp [bs, ByteArray.size]
theorem bs_inj {l m : List UInt8} : bs l = bs m ↔ l = m := ⟨fun h => by rw [← bs_data l, h, bs_data], fun h => by rw [h]⟩
theorem bs_take (l : List UInt8) (i : Nat) : (bs l).extract 0 i = bs (l.take i) := by
  apply ByteArray.ext; apply Array.ext'; simp [bs]
theorem bs_drop (l : List UInt8) (i : Nat) : (bs l).extract i (bs l).size = bs (l.drop i) := by
  apply ByteArray.ext; apply Array.ext'; rw [Lib.extract_to_end]; simp [bs]
theorem bs_app (l m : List UInt8) : bs l ++ bs m = bs (l ++ m) := by
  apply ByteArray.ext; apply Array.ext'; simp [bs]

/-! ### Blocks -/
/-- Block b begins with two cells that may be written. -/
structure At2 (w : World) (b : Nat) (x y : Value) : Prop where
  c0 : w.cell? ⟨b, 0, none⟩ = some x
  c1 : w.cell? ⟨b, 1, none⟩ = some y
  f0 : w.frozen? ⟨b, 0, none⟩ = false
  f1 : w.frozen? ⟨b, 1, none⟩ = false
theorem At2.new (w : World) (x y : Value) (T : Nat) : At2 (w.alloc (.cells #[x, y] T)) w.heap.size x y := ⟨by simp, by simp, by simp, by simp⟩
theorem At2.below {w w1 : World} {b B : Nat} {x y : Value} (h : At2 w b x y) (hB : RowKit.Below B w w1) (hb : b < B) : At2 w1 b x y :=
  ⟨(hB.cell (p := ⟨b, 0, none⟩) hb).trans h.c0, (hB.cell (p := ⟨b, 1, none⟩) hb).trans h.c1, (hB.frozen (p := ⟨b, 0, none⟩) hb).trans h.f0, (hB.frozen (p := ⟨b, 1, none⟩) hb).trans h.f1⟩
theorem At2.lt {w : World} {b : Nat} {x y : Value} (h : At2 w b x y) : b < w.heap.size := World.block_lt_of_cell? _ _ h.c0
theorem At2.bel {w w1 : World} {b : Nat} {x y : Value} (h : At2 w b x y) (hB : RowKit.Below w.heap.size w w1) : At2 w1 b x y := h.below hB h.lt
/-- What lay lies as it lay, but for one block. -/
structure Kept (b : Nat) (w w' : World) : Prop where
  os : w'.os = w.os
  tape : w'.tape = w.tape
  output : w'.output = w.output
  size : w.heap.size ≤ w'.heap.size
  block : ∀ k, k < w.heap.size → k ≠ b → w'.heap[k]? = w.heap[k]?
theorem Kept.of {b : Nat} {w w' : World} (h : RowKit.Below w.heap.size w w') : Kept b w w' := ⟨h.os, h.tape, h.output, h.size, fun k hk _ => h.block k hk⟩
theorem Kept.refl (b : Nat) (w : World) : Kept b w w := Kept.of (Below.refl _ _)
theorem Kept.trans {b : Nat} {w u v : World} (h : Kept b w u) (k : Kept b u v) : Kept b w v :=
  ⟨k.os.trans h.os, k.tape.trans h.tape, k.output.trans h.output, Nat.le_trans h.size k.size, fun j hj hn => (k.block j (Nat.lt_of_lt_of_le hj h.size) hn).trans (h.block j hj hn)⟩
theorem Kept.bel {b : Nat} {w u v : World} (h : Kept b w u) (k : RowKit.Below u.heap.size u v) : Kept b w v := h.trans (Kept.of k)
theorem Kept.setCell {b : Nat} {w u : World} (h : Kept b w u) (o : Nat) (s : Option Nat) (x : Value) : Kept b w (u.setCell ⟨b, o, s⟩ x) :=
  h.trans ⟨rfl, rfl, rfl, by simp [World.setCell], fun k _ hn => Below.heap_setCell _ _ _ _ hn⟩
theorem Kept.below {b B : Nat} {w w' : World} (h : Kept b w w') (hb : B ≤ b) (hB : B ≤ w.heap.size) : RowKit.Below B w w' :=
  ⟨h.os, h.tape, h.output, h.size, fun k hk => h.block k (by omega) (by omega)⟩
end Go.Proofs.YtoaeceeookknnaaDoor
