/-
  What the walks of layer 7 share: regions whose callees make memory, blocks of two cells, worlds in which one block alone may have changed.
  Slices of tokens: how they lie in memory; those of a call's own, and an append of one token onto them.
  What the walks of layer 9 share: slices of words, boxes of five and ten cells, where a parser is, how expressions lie in memory.
  How expressions lie in memory.
  What the walks of the parser share: its reader in memory, the map of operators, what a panic of it bears.
  Takes and steps of a region whose order is open, number by number: the operation stands written out.
-/
import Derived.Test.YtedbpjcglnkjmaaGreatDoorProg
import Derived.Test.YtedbpjcglnkjmaaGreatDoorZA
import Derived.WalkKit
import Derived.WalkSpells
import Derived.WalkLawsBesides
import Derived.Lib.Hide
import Derived.Lib.IndexBytes
import Derived.Deep.Draws
import Derived.Deep.LoopGhost
import Derived.Deep.QuietTactic
import Derived.Deep.OwnRows
import Derived.Deep.AppendLies
import Derived.BigQuiet
import Derived.OwnWalkIn
import Derived.Laws.OwnMore
import Derived.Shelf.SlSortCmp.QuietGrown
import Derived.Defers
import Derived.Recover
import Derived.Laws.Pointers
import Derived.Deep.DrawnRows
import Derived.Deep.RegionHeld3
namespace Go.Proofs.YtedbpjcglnkjmaaGreatDoor
open Go.RowKit Lx

/-- The worlds behind w in which all that lay lies as it lay. -/
structure Bw (w : World) where
  w' : World
  h : RowKit.Below w.heap.size w w'
instance (w : World) : Inhabited (Bw w) := ⟨⟨w, Below.refl _ _⟩⟩
theorem mixed : Tryz.prog.follows .mixedOrders = true := by kernel_rfl
/-- A region whose order is open, whose operations read, and whose callees make memory of their own: one walk in the text's order. -/
theorem wp_region_bw {P : Program} {id : Nat} {Q : Exit → Act → World → Prop} {a : Act} {w : World} {l : List Oper} (hm : P.follows .mixedOrders = true) (hB : Region.lexB .any l.toArray = true)
    (h : wpQuiet P l.toArray (fun w' => ∃ p : Bw w, w' = p.w') (fun a' => ∀ w', (∃ p : Bw w, w' = p.w') → Q .normal a' w') l a) : (Code.region id l.toArray true).wp P Q a w :=
  wp_region_quiet (C := fun w' => ∃ p : Bw w, w' = p.w') hm hB ⟨⟨_, (Below.refl _ w).drew⟩, rfl⟩ (by simpa using h)
theorem bw_out {w w' : World} (h : ∃ p : Bw w, w' = p.w') : RowKit.Below w.heap.size w w' := by obtain ⟨p, rfl⟩ := h; exact p.h
theorem cell_bw {w : World} {a : Addr} {v : Value} (hb : a.block < w.heap.size) (h : w.cell? a = some v) : ∀ p : Bw w, p.w'.cell? a = some v := fun p => (p.h.cell hb).trans h
theorem Calls.bw_of {P : Program} {f : FuncId} {args : Array Value} {w : World} {p : Bw w} {v : Value}
    (h : Calls P f args p.w' fun e w' => e = .returned v ∧ RowKit.Below p.w'.heap.size p.w' w') : Calls P f args p.w' fun e w'' => e = .returned v ∧ ∃ q : Bw w, w'' = q.w' :=
  h.mono fun _ w' ⟨he, hb⟩ => ⟨he, ⟨w', p.h.trans (hb.mono p.h.size)⟩, rfl⟩
theorem ret_bool {a b : Bool} (h : a = b) : Ending.returned (.bool a) = .returned (.bool b) := by rw [h]
theorem ret_i64 {a b : Int} (h : a = b) : Ending.returned (.int .i64 a) = .returned (.int .i64 b) := by rw [h]
theorem ret_str {a b : ByteArray} (h : a = b) : Ending.returned (.string a) = .returned (.string b) := by rw [h]
theorem addr_add (b off i : Nat) : (⟨b, off, none⟩ : Addr).add i = ⟨b, off + i, none⟩ := by unfold Addr.add; split <;> simp_all

/-! ### Strings as lists -/
def bs (l : List UInt8) : ByteArray := ⟨l.toArray⟩
theorem bs_of (s : ByteArray) : s = bs s.data.toList := by apply ByteArray.ext; simp [bs]
theorem bs_list (l : List UInt8) : (bs l).toList = l := by rw [Lib.toList_data]; simp [bs]
theorem bs_data (l : List UInt8) : (bs l).data.toList = l := by simp [bs]
theorem bs_size (l : List UInt8) : (bs l).size = l.length := by simp [bs, ByteArray.size]
theorem bs_inj {l m : List UInt8} : bs l = bs m ↔ l = m := ⟨fun h => by rw [← bs_data l, h, bs_data], fun h => by rw [h]⟩
theorem bs_take (l : List UInt8) (i : Nat) : (bs l).extract 0 i = bs (l.take i) := by
  apply ByteArray.ext; apply Array.ext'; simp [bs]
theorem bs_drop (l : List UInt8) (i : Nat) : (bs l).extract i (bs l).size = bs (l.drop i) := by
  apply ByteArray.ext; apply Array.ext'; rw [Lib.extract_to_end]; simp [bs]
theorem bs_app (l m : List UInt8) : bs l ++ bs m = bs (l ++ m) := by
  apply ByteArray.ext; apply Array.ext'; simp [bs]

/-! ### Blocks -/
/-- Block b begins with two cells that may be written. -/
structure At2 (w : World) (b : Nat) (x y : Value) : Prop where
  c0 : w.cell? ⟨b, 0, none⟩ = some x
  c1 : w.cell? ⟨b, 1, none⟩ = some y
  f0 : w.frozen? ⟨b, 0, none⟩ = false
  f1 : w.frozen? ⟨b, 1, none⟩ = false
theorem At2.new (w : World) (x y : Value) (T : Nat) : At2 (w.alloc (.cells #[x, y] T)) w.heap.size x y := ⟨by simp, by simp, by simp, by simp⟩
theorem At2.below {w w1 : World} {b B : Nat} {x y : Value} (h : At2 w b x y) (hB : RowKit.Below B w w1) (hb : b < B) : At2 w1 b x y :=
  ⟨(hB.cell (p := ⟨b, 0, none⟩) hb).trans h.c0, (hB.cell (p := ⟨b, 1, none⟩) hb).trans h.c1, (hB.frozen (p := ⟨b, 0, none⟩) hb).trans h.f0, (hB.frozen (p := ⟨b, 1, none⟩) hb).trans h.f1⟩
theorem At2.lt {w : World} {b : Nat} {x y : Value} (h : At2 w b x y) : b < w.heap.size := World.block_lt_of_cell? _ _ h.c0
theorem At2.bel {w w1 : World} {b : Nat} {x y : Value} (h : At2 w b x y) (hB : RowKit.Below w.heap.size w w1) : At2 w1 b x y := h.below hB h.lt
/-- What lay lies as it lay, but for one block. -/
structure Kept (b : Nat) (w w' : World) : Prop where
  os : w'.os = w.os
  tape : w'.tape = w.tape
  output : w'.output = w.output
  size : w.heap.size ≤ w'.heap.size
  block : ∀ k, k < w.heap.size → k ≠ b → w'.heap[k]? = w.heap[k]?
theorem Kept.of {b : Nat} {w w' : World} (h : RowKit.Below w.heap.size w w') : Kept b w w' := ⟨h.os, h.tape, h.output, h.size, fun k hk _ => h.block k hk⟩
theorem Kept.refl (b : Nat) (w : World) : Kept b w w := Kept.of (Below.refl _ _)
theorem Kept.trans {b : Nat} {w u v : World} (h : Kept b w u) (k : Kept b u v) : Kept b w v :=
  ⟨k.os.trans h.os, k.tape.trans h.tape, k.output.trans h.output, Nat.le_trans h.size k.size, fun j hj hn => (k.block j (Nat.lt_of_lt_of_le hj h.size) hn).trans (h.block j hj hn)⟩
theorem Kept.bel {b : Nat} {w u v : World} (h : Kept b w u) (k : RowKit.Below u.heap.size u v) : Kept b w v := h.trans (Kept.of k)
theorem Kept.setCell {b : Nat} {w u : World} (h : Kept b w u) (o : Nat) (s : Option Nat) (x : Value) : Kept b w (u.setCell ⟨b, o, s⟩ x) :=
  h.trans ⟨rfl, rfl, rfl, by simp [World.setCell], fun k _ hn => Below.heap_setCell _ _ _ _ hn⟩
theorem Kept.below {b B : Nat} {w w' : World} (h : Kept b w w') (hb : B ≤ b) (hB : B ≤ w.heap.size) : RowKit.Below B w w' :=
  ⟨h.os, h.tape, h.output, h.size, fun k hk => h.block k (by omega) (by omega)⟩
theorem Kept.other {b r : Nat} {w w1 : World} (h : Kept b w w1) (hr : w.heap.size ≤ r) (o : Nat) (v : Value) : Kept b w (w1.setCell ⟨r, o, none⟩ v) :=
  ⟨h.os, h.tape, h.output, by simpa [World.setCell] using h.size, fun k hk hn => (Below.heap_setCell _ _ _ _ (by show k ≠ r; omega)).trans (h.block k hk hn)⟩
theorem Kept.other2 {b r : Nat} {w w1 : World} (h : Kept b w w1) (hr : w.heap.size ≤ r) (a : Addr) (ha : a.block = r) (v : Value) : Kept b w (w1.setCell a v) :=
  ⟨h.os, h.tape, h.output, by simpa [World.setCell] using h.size, fun k hk hn => (Below.heap_setCell _ _ _ _ (by rw [ha]; omega)).trans (h.block k hk hn)⟩
def tokV (t : Tok) : Value := .agg #[.int .i64 t.k, .int .i64 t.a, .string (bs t.t), .int .i64 t.n, .int .i64 t.d]
end Go.Proofs.YtedbpjcglnkjmaaGreatDoor
namespace Go.Proofs.YtedbpjcglnkjmaaGreatDoor
open Go.RowKit Lx

def vi (x : Int) : Value := .int .i64 x
theorem infoT : (Tryz.prog.info? 88).map (fun i => (i.zero, i.size, i.bytes)) = some (some (.agg #[.int .i64 0, .int .i64 0, .string ⟨#[]⟩, .int .i64 0, .int .i64 0]), 5, 48) := by kernel_rfl
def flT : List Tok → List Value
  | [] => []
  | x :: l => vi (x.k) :: vi (x.a) :: .string (bs x.t) :: vi (x.n) :: vi (x.d) :: flT l
theorem flT_len : ∀ l, (flT l).length = l.length * 5
  | [] => rfl
  | x :: l => by simp only [flT, List.length_cons, flT_len l]; omega
theorem flT_app : ∀ l m, flT (l ++ m) = flT l ++ flT m
  | [], _ => rfl
  | x :: l, m => by rw [List.cons_append, flT, flT, flT_app]; rfl
theorem flT_at : ∀ (l : List Tok) (k : Nat) (h : k < l.length), (flT l)[k * 5]? = some (vi (l[k].k)) ∧ (flT l)[k * 5 + 1]? = some (vi (l[k].a)) ∧ (flT l)[k * 5 + 2]? = some (.string (bs l[k].t)) ∧ (flT l)[k * 5 + 3]? = some (vi (l[k].n)) ∧ (flT l)[k * 5 + 4]? = some (vi (l[k].d))
  | x :: l, 0, _ => ⟨rfl, rfl, rfl, rfl, rfl⟩
  | x :: l, k + 1, h => by
    have := flT_at l k (by simpa using h)
    rw [show (k + 1) * 5 = k * 5 + 1 + 1 + 1 + 1 + 1 by omega]
    simp only [flT, List.getElem_cons_succ, Nat.add_assoc, Nat.reduceAdd] at this ⊢
    exact this
theorem flT_one : ∀ (l : List Tok) (u : Value), u ∈ flT l → u.oneCell' = true
  | x :: l, u, h => by
    simp only [flT, List.mem_cons] at h
    rcases h with rfl | rfl | rfl | rfl | rfl | h
    · rfl
    · rfl
    · rfl
    · rfl
    · rfl
    · exact flT_one l u h
/-- A slice of the call's own that reads as a list. -/
def OwnT (w : World) (base : Nat) (v : Value) (l : List Tok) : Prop := w.ownsRow base 88 5 v l.length (flT l)
theorem OwnT.empty (w : World) (base : Nat) : OwnT w base (.slice none 0 0) [] := World.ownsRow_nil _ _ _ _
theorem OwnT.block {w : World} {base : Nat} {v : Value} {l : List Tok} (h : OwnT w base v l) : ∀ k, v.ownBlock = some k → base ≤ k := by
  intro k hk
  rcases h.2 with ⟨rfl, _⟩ | ⟨g, cap, cur, rfl, hg, _⟩
  · cases hk
  · simp [Value.ownBlock] at hk; omega
theorem OwnT.alloc {w : World} {base : Nat} {v : Value} {l : List Tok} (h : OwnT w base v l) (o : Obj) : OwnT (w.alloc o) base v l := World.ownsRow.alloc h o
theorem OwnT.lt {w : World} {base : Nat} {v : Value} {l : List Tok} (h : OwnT w base v l) : ∀ k, v.ownBlock = some k → k < w.heap.size := by
  intro k hk
  rcases h.2 with ⟨rfl, _⟩ | ⟨g, cap, cur, rfl, hg, hb, _⟩
  · cases hk
  · obtain rfl : g = k := by simpa [Value.ownBlock] using hk
    rcases Nat.lt_or_ge g w.heap.size with z | z
    · exact z
    · rw [Array.getElem?_eq_none z] at hb; cases hb
/-- It reads on where one other block alone may have changed. -/
theorem OwnT.kept {w w' : World} {base b : Nat} {v : Value} {l : List Tok} (h : OwnT w base v l) (hB : Kept b w w') (hb' : b < base) : OwnT w' base v l := by
  refine ⟨h.1, ?_⟩
  rcases h.2 with ⟨h1, h2⟩ | ⟨g, cap, cur, hv, hg, hb, hr⟩
  · exact .inl ⟨h1, h2⟩
  · refine .inr ⟨g, cap, cur, hv, hg, ?_, hr⟩
    have hlt : g < w.heap.size := by
      rcases Nat.lt_or_ge g w.heap.size with z | z
      · exact z
      · rw [Array.getElem?_eq_none z] at hb; cases hb
    rw [hB.block g hlt (by omega)]; exact hb
theorem OwnT.below {w w' : World} {base : Nat} {v : Value} {l : List Tok} (h : OwnT w base v l) (hB : RowKit.Below w.heap.size w w') : OwnT w' base v l := by
  refine ⟨h.1, ?_⟩
  rcases h.2 with ⟨h1, h2⟩ | ⟨g, cap, cur, hv, hg, hb, hr⟩
  · exact .inl ⟨h1, h2⟩
  · refine .inr ⟨g, cap, cur, hv, hg, ?_, hr⟩
    have hlt : g < w.heap.size := by
      rcases Nat.lt_or_ge g w.heap.size with z | z
      · exact z
      · rw [Array.getElem?_eq_none z] at hb; cases hb
    rw [hB.block g hlt]; exact hb
/-- A list of tokens lies in a block, from a place on. -/
def AtT (w : World) (b off : Nat) (l : List Tok) : Prop := ∀ (k : Nat) (h : k < l.length), w.cell? ⟨b, off + k * 5, none⟩ = some (.int .i64 l[k].k) ∧ w.cell? ⟨b, off + k * 5 + 1, none⟩ = some (.int .i64 l[k].a) ∧
  w.cell? ⟨b, off + k * 5 + 2, none⟩ = some (.string (bs l[k].t)) ∧ w.cell? ⟨b, off + k * 5 + 3, none⟩ = some (.int .i64 l[k].n) ∧ w.cell? ⟨b, off + k * 5 + 4, none⟩ = some (.int .i64 l[k].d)
/-- A slice reads as a list of tokens. -/
structure SlT (w : World) (p : Option Addr) (b off len : Nat) (l : List Tok) : Prop where
  ln : l.length = len
  ptr : 0 < len → p = some ⟨b, off, none⟩
  cells : AtT w b off l
  lt : 0 < len → b < w.heap.size
  max : len ≤ 1000000
theorem SlT.below {w w1 : World} {p : Option Addr} {b off len B : Nat} {l : List Tok} (h : SlT w p b off len l) (hB : RowKit.Below B w w1) (hb : 0 < len → b < B) : SlT w1 p b off len l :=
  ⟨h.ln, h.ptr, fun k hk => by
    have hb := hb (by have := h.ln; omega)
    obtain ⟨c0, c1, c2, c3, c4⟩ := h.cells k hk
    exact ⟨(hB.cell (p := ⟨b, off + k * 5, none⟩) hb).trans c0, (hB.cell (p := ⟨b, off + k * 5 + 1, none⟩) hb).trans c1, (hB.cell (p := ⟨b, off + k * 5 + 2, none⟩) hb).trans c2, (hB.cell (p := ⟨b, off + k * 5 + 3, none⟩) hb).trans c3, (hB.cell (p := ⟨b, off + k * 5 + 4, none⟩) hb).trans c4⟩,
    fun x => Nat.lt_of_lt_of_le (h.lt x) hB.size, h.max⟩
theorem SlT.bel {w w1 : World} {p : Option Addr} {b off len : Nat} {l : List Tok} (h : SlT w p b off len l) (hB : RowKit.Below w.heap.size w w1) : SlT w1 p b off len l := h.below hB h.lt
theorem SlT.nil (w : World) (p : Option Addr) : SlT w p 0 0 0 [] := ⟨rfl, fun h => by omega, fun k h => by simp at h, fun h => by omega, by omega⟩
theorem SlT.of_block {w w1 : World} {p : Option Addr} {b off len : Nat} {l : List Tok} (h : SlT w p b off len l) (hb : 0 < len → w1.heap[b]? = w.heap[b]?) (hs : w.heap.size ≤ w1.heap.size) : SlT w1 p b off len l :=
  ⟨h.ln, h.ptr, fun k hk => by
    have hb := hb (by have := h.ln; omega)
    obtain ⟨c0, c1, c2, c3, c4⟩ := h.cells k hk
    exact ⟨(World.cell?_of_block (w := w) (a := ⟨b, off + k * 5, none⟩) hb).trans c0, (World.cell?_of_block (w := w) (a := ⟨b, off + k * 5 + 1, none⟩) hb).trans c1, (World.cell?_of_block (w := w) (a := ⟨b, off + k * 5 + 2, none⟩) hb).trans c2, (World.cell?_of_block (w := w) (a := ⟨b, off + k * 5 + 3, none⟩) hb).trans c3, (World.cell?_of_block (w := w) (a := ⟨b, off + k * 5 + 4, none⟩) hb).trans c4⟩,
    fun x => Nat.lt_of_lt_of_le (h.lt x) hs, h.max⟩
/-- What a slice that came out reads as. -/
def OutT (w : World) (v : Value) (l : List Tok) : Prop := ∃ q b cap n, v = .slice q n cap ∧ SlT w q b 0 n l ∧ n ≤ cap
theorem OutT.below {w w1 : World} {v : Value} {l : List Tok} (h : OutT w v l) (hB : RowKit.Below w.heap.size w w1) : OutT w1 v l := by
  obtain ⟨q, b, cap, n, h1, h2, h3⟩ := h
  exact ⟨q, b, cap, n, h1, h2.bel hB, h3⟩
theorem OwnT.reads {w : World} {base : Nat} {v : Value} {l : List Tok} (h : OwnT w base v l) (hm : l.length ≤ 1000000) : ∃ q b cap n, v = .slice q n cap ∧ SlT w q b 0 n l ∧ n ≤ cap ∧ (0 < n → base ≤ b) := by
  obtain ⟨_, h⟩ := h
  rcases h with ⟨rfl, h0⟩ | ⟨g, cap, cur, rfl, hg, hb, hn, hc, hs, hx⟩
  · obtain rfl : l = [] := List.length_eq_zero_iff.1 h0
    exact ⟨none, 0, 0, 0, rfl, SlT.nil w _, Nat.le_refl _, fun h => by omega⟩
  · have hcell : ∀ j u, (flT l)[j]? = some u → w.cell? ⟨g, j, none⟩ = some u := fun j u hv => by
      rw [cell_of_row w g j cur _ _ hb]
      have hj : j < l.length * 5 := by
        have := (List.getElem?_eq_some_iff.1 hv).1; rw [flT_len] at this; exact this
      have e := congrArg (fun z => z[j]?) hx
      simp only [List.getElem?_take, hj, if_true] at e
      rw [← Array.getElem?_toList, e, hv]
    refine ⟨_, g, cap, _, rfl, ⟨rfl, fun _ => rfl, fun k hk => ?_, fun _ => ?_, by omega⟩, hn, fun _ => hg⟩
    · obtain ⟨a0, a1, a2, a3, a4⟩ := flT_at l k hk
      simp only [Nat.zero_add]
      exact ⟨hcell _ _ a0, hcell _ _ a1, hcell _ _ a2, hcell _ _ a3, hcell _ _ a4⟩
    · rcases Nat.lt_or_ge g w.heap.size with z | z
      · exact z
      · rw [Array.getElem?_eq_none z] at hb; cases hb
/-- An element lies at the head of a block. -/
def OneT (w : World) (b : Nat) (x : Tok) : Prop := w.cell? ⟨b, 0, none⟩ = some (.int .i64 x.k) ∧ w.cell? ⟨b, 1, none⟩ = some (.int .i64 x.a) ∧ w.cell? ⟨b, 2, none⟩ = some (.string (bs x.t)) ∧ w.cell? ⟨b, 3, none⟩ = some (.int .i64 x.n) ∧ w.cell? ⟨b, 4, none⟩ = some (.int .i64 x.d)
theorem OneT.new (w : World) (x : Tok) (C : TypeId) : OneT (w.alloc (.cells #[.int .i64 x.k, .int .i64 x.a, .string (bs x.t), .int .i64 x.n, .int .i64 x.d] C)) w.heap.size x := ⟨by simp, by simp, by simp, by simp, by simp⟩
theorem OneT.news {w : World} {b : Nat} {x : Tok} (h : OneT w b x) : ∀ (j : Nat) (u : Value), (flT [x])[j]? = some u → w.cell? ((⟨b, 0, none⟩ : Addr).add j) = some u
  | 0, u, hu => by simp [flT, vi] at hu; rw [addr_add, Nat.zero_add, ← hu]; exact h.1
  | 1, u, hu => by simp [flT, vi] at hu; rw [addr_add, Nat.zero_add, ← hu]; exact h.2.1
  | 2, u, hu => by simp [flT, vi] at hu; rw [addr_add, Nat.zero_add, ← hu]; exact h.2.2.1
  | 3, u, hu => by simp [flT, vi] at hu; rw [addr_add, Nat.zero_add, ← hu]; exact h.2.2.2.1
  | 4, u, hu => by simp [flT, vi] at hu; rw [addr_add, Nat.zero_add, ← hu]; exact h.2.2.2.2
  | j + 5, u, hu => by simp [flT] at hu
theorem run_appT (w : World) (base : Nat) (ty : TypeId) (v : Value) (l : List Tok) (hown : OwnT w base v l) (b c : Nat) (x : Tok) (hx : OneT w b x) (h1 : l.length ≤ 1000000) (hbase : base ≤ w.heap.size) :
    ∃ v' w', (Builtin.append_ #[70, 70] ty #[v, .slice (some ⟨b, 0, none⟩) 1 c]).run Tryz.prog w = .ok v' w' ∧ OwnT w' base v' (l ++ [x]) ∧ w.grownBy w' v.ownBlock := by
  obtain ⟨i, hi, hz⟩ := Option.map_eq_some_iff.1 infoT
  simp only [Prod.mk.injEq] at hz
  obtain ⟨v', w', hr, h3, h4, _, _⟩ := run_append_own_at (P := Tryz.prog) w base 70 ty 88 i (.agg #[.int .i64 0, .int .i64 0, .string ⟨#[]⟩, .int .i64 0, .int .i64 0]) 5 48 Tryz.underlying70 hi hz.1 hz.2.1 hz.2.2 rfl (by omega) v l.length (flT l) hown ⟨b, 0, none⟩ 1 c (flT [x]) (by rw [flT_len]; rfl)
    hx.news (fun u hu => flT_one _ u hu) (by unfold maxLen; omega) (by omega) hbase
  refine ⟨v', w', hr, ?_, h4⟩
  unfold OwnT
  rw [List.length_append, flT_app]
  exact h3
/-- In a walk in the text's order. -/
theorem list_appT {w : World} {ops : Array Oper} {rest : List Oper} {o : Oper} {a : Act} {Q : Exit → Act → World → Prop} (hgd : o.guard = none) (s y : Operand)
    (ho : o.op = .call { callee := .builtin .append, args := #[s, y], argTypes := #[70, 70] })
    (base : Nat) (v : Value) (l : List Tok) (hs : a.eval s = v) (hown : OwnT w base v l) (b c : Nat) (x : Tok) (hy : a.eval y = .slice (some ⟨b, 0, none⟩) 1 c) (hx : OneT w b x)
    (h1 : l.length ≤ 1000000) (hbase : base ≤ w.heap.size)
    (h : ∀ v' w', OwnT w' base v' (l ++ [x]) → w.grownBy w' v.ownBlock → wpList Tryz.prog ops Q rest (a.put o.dst v') w') : wpList Tryz.prog ops Q (o :: rest) a w :=
  wpList_plain hgd fun _ hK => by
    obtain ⟨v', w', hr, h3, h4⟩ := run_appT w base o.type v l hown b c x hx h1 hbase
    unfold Oper.wp execOp
    simp only [ho, resolve, invoke, builtin, Sem.run_bind, Sem.run_pure, Result.andThen_ok, List.map_toArray, List.map_cons, List.map_nil, hs, hy, hr]
    exact hK _ _ (h v' w' h3 h4)
/-- What an append leaves: what lay below the slices' blocks lies as it lay. -/
theorem OwnT.grown {w w' : World} {base : Nat} {v : Value} {l : List Tok} (h : OwnT w base v l) (hg : w.grownBy w' v.ownBlock) (hb : base ≤ w.heap.size) : RowKit.Below base w w' :=
  (Below.refl base w).grown hg hb h.block
end Go.Proofs.YtedbpjcglnkjmaaGreatDoor
namespace Go.Proofs.YtedbpjcglnkjmaaGreatDoor
open Go.RowKit Lx Pa

/-- A slice reads as a list of strings. -/
structure SlS (w : World) (p : Option Addr) (b off len : Nat) (l : List (List UInt8)) : Prop where
  ln : l.length = len
  ptr : 0 < len → p = some ⟨b, off, none⟩
  cells : ∀ (k : Nat) (h : k < l.length), w.cell? ⟨b, off + k, none⟩ = some (.string (bs l[k]))
  lt : 0 < len → b < w.heap.size
  max : len ≤ 1000000
theorem SlS.bel {w w1 : World} {p : Option Addr} {b off len : Nat} {l : List (List UInt8)} (h : SlS w p b off len l) (hB : RowKit.Below w.heap.size w w1) : SlS w1 p b off len l :=
  ⟨h.ln, h.ptr, fun k hk => (hB.cell (p := ⟨b, off + k, none⟩) (h.lt (by have := h.ln; omega))).trans (h.cells k hk), fun x => Nat.lt_of_lt_of_le (h.lt x) hB.size, h.max⟩
/-- A box of five cells (of a parser's state). -/
structure B5 (w : World) (b : Nat) (x0 x1 x2 x3 x4 : Value) : Prop where
  c0 : w.cell? ⟨b, 0, none⟩ = some x0
  c1 : w.cell? ⟨b, 1, none⟩ = some x1
  c2 : w.cell? ⟨b, 2, none⟩ = some x2
  c3 : w.cell? ⟨b, 3, none⟩ = some x3
  c4 : w.cell? ⟨b, 4, none⟩ = some x4
  f0 : w.frozen? ⟨b, 0, none⟩ = false
  f1 : w.frozen? ⟨b, 1, none⟩ = false
  f2 : w.frozen? ⟨b, 2, none⟩ = false
  f3 : w.frozen? ⟨b, 3, none⟩ = false
  f4 : w.frozen? ⟨b, 4, none⟩ = false
theorem B5.new (w : World) (x0 x1 x2 x3 x4 : Value) (T : Nat) : B5 (w.alloc (.cells #[x0, x1, x2, x3, x4] T)) w.heap.size x0 x1 x2 x3 x4 := ⟨by simp, by simp, by simp, by simp, by simp, by simp, by simp, by simp, by simp, by simp⟩
theorem B5.of {w w1 : World} {b : Nat} {x0 x1 x2 x3 x4 : Value} (h : B5 w b x0 x1 x2 x3 x4) (hb : w1.heap[b]? = w.heap[b]?) : B5 w1 b x0 x1 x2 x3 x4 := by
  have c : ∀ o, w1.cell? ⟨b, o, none⟩ = w.cell? ⟨b, o, none⟩ := fun o => World.cell?_of_block (w := w) (a := ⟨b, o, none⟩) hb
  have f : ∀ o, w1.frozen? ⟨b, o, none⟩ = w.frozen? ⟨b, o, none⟩ := fun o => World.frozen?_of_block (w := w) (a := ⟨b, o, none⟩) hb
  exact ⟨(c 0).trans h.c0, (c 1).trans h.c1, (c 2).trans h.c2, (c 3).trans h.c3, (c 4).trans h.c4, (f 0).trans h.f0, (f 1).trans h.f1, (f 2).trans h.f2, (f 3).trans h.f3, (f 4).trans h.f4⟩
theorem B5.bel {w w1 : World} {b : Nat} {x0 x1 x2 x3 x4 : Value} (h : B5 w b x0 x1 x2 x3 x4) (hB : RowKit.Below w.heap.size w w1) : B5 w1 b x0 x1 x2 x3 x4 := h.of (hB.block b (World.block_lt_of_cell? _ _ h.c0))
theorem B5.set1 {w : World} {b : Nat} {x0 x1 x2 x3 x4 : Value} (h : B5 w b x0 x1 x2 x3 x4) (y : Value) : B5 (w.setCell ⟨b, 1, none⟩ y) b x0 y x2 x3 x4 := by
  obtain ⟨c0, c1, c2, c3, c4, f0, f1, f2, f3, f4⟩ := h
  have NE : ∀ o, o ≠ 1 → (w.setCell ⟨b, 1, none⟩ y).cell? ⟨b, o, none⟩ = w.cell? ⟨b, o, none⟩ := fun o ho => World.cell?_setCell_other w _ _ y (by intro e; injection e with _ e2 _; exact ho e2.symm)
  exact ⟨(NE 0 (by decide)).trans c0, World.cell?_setCell_same _ _ _ c1, (NE 2 (by decide)).trans c2, (NE 3 (by decide)).trans c3, (NE 4 (by decide)).trans c4, by rw [World.frozen?_setCell]; exact f0, by rw [World.frozen?_setCell]; exact f1, by rw [World.frozen?_setCell]; exact f2, by rw [World.frozen?_setCell]; exact f3, by rw [World.frozen?_setCell]; exact f4⟩
theorem B5.other {w : World} {b r : Nat} {x0 x1 x2 x3 x4 : Value} (h : B5 w b x0 x1 x2 x3 x4) (hr : b ≠ r) (o : Nat) (s : Option Nat) (y : Value) : B5 (w.setCell ⟨r, o, s⟩ y) b x0 x1 x2 x3 x4 := h.of (Below.heap_setCell _ _ _ _ hr)
/-! What a region may not change: a box that it reads, the place of its result, and what lay before. -/
section
variable {w v u : World} {a r : Nat} {x0 x1 x2 x3 x4 y0 y1 y2 y3 y4 : Value}
abbrev H5 (w : World) (a r : Nat) (x0 x1 x2 x3 x4 : Value) (v : World) : Prop :=
  v.cell? ⟨a, 0, none⟩ = some x0 ∧ v.cell? ⟨a, 1, none⟩ = some x1 ∧ v.cell? ⟨a, 2, none⟩ = some x2 ∧ v.cell? ⟨a, 3, none⟩ = some x3 ∧ v.cell? ⟨a, 4, none⟩ = some x4 ∧
  v.frozen? ⟨r, 0, none⟩ = false ∧ v.frozen? ⟨r, 1, none⟩ = false ∧ v.frozen? ⟨r, 2, none⟩ = false ∧ v.frozen? ⟨r, 3, none⟩ = false ∧ v.frozen? ⟨r, 4, none⟩ = false ∧ r < v.heap.size ∧ RowKit.Below w.heap.size w v
theorem h5_of (h : B5 v a x0 x1 x2 x3 x4) (g : B5 v r y0 y1 y2 y3 y4) (hb : RowKit.Below w.heap.size w v) : H5 w a r x0 x1 x2 x3 x4 v :=
  ⟨h.c0, h.c1, h.c2, h.c3, h.c4, g.f0, g.f1, g.f2, g.f3, g.f4, World.block_lt_of_cell? _ _ g.c0, hb⟩
theorem h5_call (h : H5 w a r x0 x1 x2 x3 x4 v) (hb : RowKit.Below v.heap.size v u) : H5 w a r x0 x1 x2 x3 x4 u := by
  obtain ⟨h0, h1, h2, h3, h4, g0, g1, g2, g3, g4, hr, hw⟩ := h
  have ha := World.block_lt_of_cell? _ _ h0
  exact ⟨(hb.cell (p := ⟨a, 0, none⟩) ha).trans h0, (hb.cell (p := ⟨a, 1, none⟩) ha).trans h1, (hb.cell (p := ⟨a, 2, none⟩) ha).trans h2, (hb.cell (p := ⟨a, 3, none⟩) ha).trans h3, (hb.cell (p := ⟨a, 4, none⟩) ha).trans h4,
    (hb.frozen (p := ⟨r, 0, none⟩) hr).trans g0, (hb.frozen (p := ⟨r, 1, none⟩) hr).trans g1, (hb.frozen (p := ⟨r, 2, none⟩) hr).trans g2, (hb.frozen (p := ⟨r, 3, none⟩) hr).trans g3, (hb.frozen (p := ⟨r, 4, none⟩) hr).trans g4,
    Nat.lt_of_lt_of_le hr hb.size, hw.trans (hb.mono hw.size)⟩
theorem h5_set (h : H5 w a r x0 x1 x2 x3 x4 v) (har : a ≠ r) (hn : w.heap.size ≤ r) (o : Nat) (s : Option Nat) (y : Value) : H5 w a r x0 x1 x2 x3 x4 (v.setCell ⟨r, o, s⟩ y) := by
  obtain ⟨h0, h1, h2, h3, h4, g0, g1, g2, g3, g4, hr, hw⟩ := h
  have hb : (v.setCell ⟨r, o, s⟩ y).heap[a]? = v.heap[a]? := Below.heap_setCell _ _ _ _ har
  have c : ∀ o', (v.setCell ⟨r, o, s⟩ y).cell? ⟨a, o', none⟩ = v.cell? ⟨a, o', none⟩ := fun o' => World.cell?_of_block (w := v) (a := ⟨a, o', none⟩) hb
  exact ⟨(c 0).trans h0, (c 1).trans h1, (c 2).trans h2, (c 3).trans h3, (c 4).trans h4, by rw [World.frozen?_setCell]; exact g0, by rw [World.frozen?_setCell]; exact g1, by rw [World.frozen?_setCell]; exact g2, by rw [World.frozen?_setCell]; exact g3, by rw [World.frozen?_setCell]; exact g4,
    by simpa [World.setCell] using hr, hw.setCell (p := ⟨r, o, s⟩) hn y⟩
end
/-- Where a parser is, as a value. -/
def stv (p : Option Addr) (n cap : Nat) (k En E O : Int) : Value := .agg #[.slice p n cap, .int .i64 k, .int .i64 En, .int .i64 E, .int .i64 O]
theorem offs_at {ts : List Tok} {k n : Nat} (h : k < ts.length) (hn : n = ts.length) (e : Nat) : offs ts e (n - k) = ts[k].a := by
  subst hn
  unfold offs
  rw [show ts.length - (ts.length - k) = k by omega, List.drop_eq_getElem_cons h]
theorem offs_end {ts : List Tok} (e : Nat) : offs ts e 0 = e := by
  unfold offs
  rw [Nat.sub_zero, List.drop_length]
/-- A unit as a value. -/
def uF (u : Nat) : Bool := u == 0
def uM (u : Nat) : Int := if u = 2 then 1 else 0
def uA (u : Nat) : Int := if u = 3 then 1 else 0
def uD (u : Nat) : Int := if u = 4 then 1 else 0
end Go.Proofs.YtedbpjcglnkjmaaGreatDoor
namespace Go.Proofs.YtedbpjcglnkjmaaGreatDoor
open Go.RowKit Lx Pa

/-- A box of ten cells (of a node). -/
structure B10 (w : World) (b : Nat) (x0 x1 x2 x3 x4 x5 x6 x7 x8 x9 : Value) : Prop where
  c0 : w.cell? ⟨b, 0, none⟩ = some x0
  c1 : w.cell? ⟨b, 1, none⟩ = some x1
  c2 : w.cell? ⟨b, 2, none⟩ = some x2
  c3 : w.cell? ⟨b, 3, none⟩ = some x3
  c4 : w.cell? ⟨b, 4, none⟩ = some x4
  c5 : w.cell? ⟨b, 5, none⟩ = some x5
  c6 : w.cell? ⟨b, 6, none⟩ = some x6
  c7 : w.cell? ⟨b, 7, none⟩ = some x7
  c8 : w.cell? ⟨b, 8, none⟩ = some x8
  c9 : w.cell? ⟨b, 9, none⟩ = some x9
  f0 : w.frozen? ⟨b, 0, none⟩ = false
  f1 : w.frozen? ⟨b, 1, none⟩ = false
  f2 : w.frozen? ⟨b, 2, none⟩ = false
  f3 : w.frozen? ⟨b, 3, none⟩ = false
  f4 : w.frozen? ⟨b, 4, none⟩ = false
  f5 : w.frozen? ⟨b, 5, none⟩ = false
  f6 : w.frozen? ⟨b, 6, none⟩ = false
  f7 : w.frozen? ⟨b, 7, none⟩ = false
  f8 : w.frozen? ⟨b, 8, none⟩ = false
  f9 : w.frozen? ⟨b, 9, none⟩ = false
theorem B10.new (w : World) (x0 x1 x2 x3 x4 x5 x6 x7 x8 x9 : Value) (T : Nat) : B10 (w.alloc (.cells #[x0, x1, x2, x3, x4, x5, x6, x7, x8, x9] T)) w.heap.size x0 x1 x2 x3 x4 x5 x6 x7 x8 x9 := ⟨by simp, by simp, by simp, by simp, by simp, by simp, by simp, by simp, by simp, by simp, by simp, by simp, by simp, by simp, by simp, by simp, by simp, by simp, by simp, by simp⟩
theorem B10.of {w w1 : World} {b : Nat} {x0 x1 x2 x3 x4 x5 x6 x7 x8 x9 : Value} (h : B10 w b x0 x1 x2 x3 x4 x5 x6 x7 x8 x9) (hb : w1.heap[b]? = w.heap[b]?) : B10 w1 b x0 x1 x2 x3 x4 x5 x6 x7 x8 x9 := by
  have c : ∀ o, w1.cell? ⟨b, o, none⟩ = w.cell? ⟨b, o, none⟩ := fun o => World.cell?_of_block (w := w) (a := ⟨b, o, none⟩) hb
  have f : ∀ o, w1.frozen? ⟨b, o, none⟩ = w.frozen? ⟨b, o, none⟩ := fun o => World.frozen?_of_block (w := w) (a := ⟨b, o, none⟩) hb
  exact ⟨(c 0).trans h.c0, (c 1).trans h.c1, (c 2).trans h.c2, (c 3).trans h.c3, (c 4).trans h.c4, (c 5).trans h.c5, (c 6).trans h.c6, (c 7).trans h.c7, (c 8).trans h.c8, (c 9).trans h.c9, (f 0).trans h.f0, (f 1).trans h.f1, (f 2).trans h.f2, (f 3).trans h.f3, (f 4).trans h.f4, (f 5).trans h.f5, (f 6).trans h.f6, (f 7).trans h.f7, (f 8).trans h.f8, (f 9).trans h.f9⟩
theorem B10.bel {w w1 : World} {b : Nat} {x0 x1 x2 x3 x4 x5 x6 x7 x8 x9 : Value} (h : B10 w b x0 x1 x2 x3 x4 x5 x6 x7 x8 x9) (hB : RowKit.Below w.heap.size w w1) : B10 w1 b x0 x1 x2 x3 x4 x5 x6 x7 x8 x9 := h.of (hB.block b (World.block_lt_of_cell? _ _ h.c0))
/-- A node as a value. -/
structure NV where
  o : Int
  a : Int
  s : ByteArray
  n : Int
  d : Int
  f : Bool
  m : Int
  r : Int
  y : Int
  q : Option Addr
  k : Nat
  c : Nat
def NV.cells (x : NV) : List Value := [.int .i64 x.o, .int .i64 x.a, .string x.s, .int .i64 x.n, .int .i64 x.d, .bool x.f, .int .i64 x.m, .int .i64 x.r, .int .i64 x.y, .slice x.q x.k x.c]
mutual
/-- A node's value is an expression; its operands lie in blocks of a kind; ofs: the byte offsets of places. -/
def NodeA (w : World) (A : Nat → Prop) (ofs : Nat → Int) : Tree → NV → Prop
  | .mk op pl nm n d u ks, x => (x.o = op ∧ x.a = ofs pl ∧ x.s = bs nm ∧ x.n = n ∧ x.d = d ∧ x.f = uF u ∧ x.m = uM u ∧ x.r = uA u ∧ x.y = uD u ∧ x.k = ks.length) ∧ ∃ b off, (0 < ks.length → x.q = some ⟨b, off, none⟩ ∧ A b ∧ b < w.heap.size) ∧ KidsA w A ofs b off ks
def KidsA (w : World) (A : Nat → Prop) (ofs : Nat → Int) (b : Nat) : Nat → List Tree → Prop
  | _, [] => True
  | off, k :: ks => (∃ x : NV, (∀ (j : Nat) (v : Value), x.cells[j]? = some v → w.cell? ⟨b, off + j, none⟩ = some v) ∧ NodeA w A ofs k x) ∧ KidsA w A ofs b (off + 10) ks
end
/-- From a block on. -/
@[reducible] def NodeV (w : World) (lo : Nat) (ofs : Nat → Int) (t : Tree) (x : NV) : Prop := NodeA w (fun b => lo ≤ b) ofs t x
@[reducible] def KidsV (w : World) (lo : Nat) (ofs : Nat → Int) (b off : Nat) (ks : List Tree) : Prop := KidsA w (fun b => lo ≤ b) ofs b off ks
/-- What lies from lo on lies as it lay. -/
structure Kfr (lo : Nat) (w w1 : World) : Prop where
  size : w.heap.size ≤ w1.heap.size
  blk : ∀ j, lo ≤ j → j < w.heap.size → w1.heap[j]? = w.heap[j]?
theorem Kfr.of {w w1 : World} (lo : Nat) (h : RowKit.Below w.heap.size w w1) : Kfr lo w w1 := ⟨h.size, fun j _ hj => h.block j hj⟩
theorem Kfr.set {w w1 : World} {lo r : Nat} (h : Kfr lo w w1) (hr : r < lo) (o : Nat) (s : Option Nat) (y : Value) : Kfr lo w (w1.setCell ⟨r, o, s⟩ y) :=
  ⟨by simpa [World.setCell] using h.size, fun j hj hs => (Below.heap_setCell _ _ _ _ (by show j ≠ r; omega)).trans (h.blk j hj hs)⟩
theorem Kfr.drew {w w1 : World} {lo : Nat} (h : Kfr lo w w1) : Kfr lo w w1.drew := ⟨h.size, h.blk⟩
theorem Kfr.refl (lo : Nat) (w : World) : Kfr lo w w := ⟨Nat.le_refl _, fun _ _ _ => rfl⟩
mutual
theorem NodeA.keep {w w1 : World} {A A' : Nat → Prop} {ofs : Nat → Int} (hs : w.heap.size ≤ w1.heap.size) (hB : ∀ j, A j → j < w.heap.size → w1.heap[j]? = w.heap[j]?) (hA : ∀ j, A j → j < w.heap.size → A' j) : ∀ (t : Tree) (x : NV), NodeA w A ofs t x → NodeA w1 A' ofs t x
  | .mk op pl nm n d u ks, x, h => by
    simp only [NodeA] at h ⊢
    obtain ⟨h1, b, off, h2, h3⟩ := h
    by_cases hk : 0 < ks.length
    · exact ⟨h1, b, off, fun h => ⟨(h2 h).1, hA _ (h2 h).2.1 (h2 h).2.2, Nat.lt_of_lt_of_le (h2 h).2.2 hs⟩, KidsA.keep hs hB hA b (h2 hk).2.1 (h2 hk).2.2 off ks h3⟩
    · have : ks = [] := List.length_eq_zero_iff.1 (by omega)
      subst this
      exact ⟨h1, b, off, fun h => absurd h hk, by simp only [KidsA]⟩
theorem KidsA.keep {w w1 : World} {A A' : Nat → Prop} {ofs : Nat → Int} (hs : w.heap.size ≤ w1.heap.size) (hB : ∀ j, A j → j < w.heap.size → w1.heap[j]? = w.heap[j]?) (hA : ∀ j, A j → j < w.heap.size → A' j) (b : Nat) (hb0 : A b) (hb : b < w.heap.size) : ∀ (off : Nat) (ks : List Tree), KidsA w A ofs b off ks → KidsA w1 A' ofs b off ks
  | _, [], _ => by simp only [KidsA]
  | off, k :: ks, h => by
    simp only [KidsA] at h ⊢
    obtain ⟨⟨x, h1, h2⟩, h3⟩ := h
    exact ⟨⟨x, fun j v hv => (World.cell?_of_block (w := w) (a := ⟨b, off + j, none⟩) (hB b hb0 hb)).trans (h1 j v hv), NodeA.keep hs hB hA k x h2⟩, KidsA.keep hs hB hA b hb0 hb (off + 10) ks h3⟩
end
theorem NodeV.keep {w w1 : World} {lo lo' : Nat} {ofs : Nat → Int} (hB : Kfr lo w w1) (hl : lo' ≤ lo) (t : Tree) (x : NV) (h : NodeV w lo ofs t x) : NodeV w1 lo' ofs t x := NodeA.keep hB.size hB.blk (fun _ h _ => Nat.le_trans hl h) t x h
theorem NodeA.bel {w w1 : World} {A : Nat → Prop} {ofs : Nat → Int} (hB : RowKit.Below w.heap.size w w1) (t : Tree) (x : NV) (h : NodeA w A ofs t x) : NodeA w1 A ofs t x := NodeA.keep hB.size (fun j _ hj => hB.block j hj) (fun _ h _ => h) t x h
theorem NodeV.bel {w w1 : World} {lo : Nat} {ofs : Nat → Int} (hB : RowKit.Below w.heap.size w w1) (t : Tree) (x : NV) (h : NodeV w lo ofs t x) : NodeV w1 lo ofs t x := NodeV.keep (Kfr.of lo hB) (Nat.le_refl _) t x h
/-- A list of nodes that was just laid. -/
theorem kids_new {w : World} {lo : Nat} {ofs : Nat → Int} (T : Nat) : ∀ (ks : List Tree) (xs : List NV) (pre : List Value), ks.length = xs.length → (∀ (i : Nat) (h : i < ks.length) (h' : i < xs.length), NodeV w lo ofs ks[i] xs[i]) →
    KidsV (w.alloc (.cells (pre ++ xs.flatMap NV.cells).toArray T)) lo ofs w.heap.size pre.length ks := by
  intro ks
  induction ks with
  | nil => intro xs pre _ _; simp only [KidsV, KidsA]
  | cons k ks ih =>
    intro xs pre hl hn
    cases xs with
    | nil => cases hl
    | cons x xs =>
      simp only [KidsA]
      refine ⟨⟨x, fun j v hv => ?_, ?_⟩, ?_⟩
      · rw [cell_of_row _ _ _ _ _ _ (heap_alloc_new w _), List.getElem?_toArray, List.getElem?_append_right (by omega), Nat.add_sub_cancel_left, List.flatMap_cons, List.getElem?_append_left (List.getElem?_eq_some_iff.1 hv).1]
        exact hv
      · exact NodeV.bel ((Below.refl w.heap.size w).alloc (Nat.le_refl _) _) _ _ (hn 0 (by simp) (by simp))
      · have := ih xs (pre ++ x.cells) (by simpa using hl) (fun i h h' => by have := hn (i + 1) (by simpa using h) (by simpa using h'); simpa using this)
        rw [List.length_append, show x.cells.length = 10 from rfl, List.append_assoc] at this
        rw [List.flatMap_cons]
        exact this
theorem B10.other {w : World} {b r : Nat} {x0 x1 x2 x3 x4 x5 x6 x7 x8 x9 : Value} (h : B10 w b x0 x1 x2 x3 x4 x5 x6 x7 x8 x9) (hr : b ≠ r) (o : Nat) (s : Option Nat) (y : Value) : B10 (w.setCell ⟨r, o, s⟩ y) b x0 x1 x2 x3 x4 x5 x6 x7 x8 x9 := h.of (Below.heap_setCell _ _ _ _ hr)
theorem node_leaf (w : World) (lo : Nat) (ofs : Nat → Int) (op : Int) (pl : Nat) (nm : List UInt8) (n d : Int) (u : Nat) : NodeV w lo ofs (.mk op pl nm n d u []) ⟨op, ofs pl, bs nm, n, d, uF u, uM u, uA u, uD u, none, 0, 0⟩ := by
  show NodeA _ _ _ _ _
  unfold NodeA
  exact ⟨⟨rfl, rfl, rfl, rfl, rfl, rfl, rfl, rfl, rfl, rfl⟩, 0, 0, fun h => absurd h (by simp), by simp only [KidsA]⟩
/-- A node over nodes that were just laid. -/
theorem node_over {v w' : World} {lo : Nat} {ofs : Nat → Int} {T : Nat} (ks : List Tree) (xs : List NV) (op : Int) (pl : Nat) (c : Nat) (hl : ks.length = xs.length) (hlo : lo ≤ v.heap.size) (h : ∀ (i : Nat) (h : i < ks.length) (h' : i < xs.length), NodeV v lo ofs ks[i] xs[i])
    (hk : Kfr lo (v.alloc (.cells (xs.flatMap NV.cells).toArray T)) w') : NodeV w' lo ofs (.mk op pl [] 0 0 1 ks) ⟨op, ofs pl, ⟨#[]⟩, 0, 0, false, 0, 0, 0, some ⟨v.heap.size, 0, none⟩, ks.length, c⟩ := by
  have h1 := kids_new T ks xs [] hl h
  rw [List.nil_append] at h1
  have h2 : NodeV (v.alloc (.cells (xs.flatMap NV.cells).toArray T)) lo ofs (.mk op pl [] 0 0 1 ks) ⟨op, ofs pl, ⟨#[]⟩, 0, 0, false, 0, 0, 0, some ⟨v.heap.size, 0, none⟩, ks.length, c⟩ := by
    show NodeA _ _ _ _ _
    unfold NodeA
    exact ⟨⟨rfl, rfl, rfl, rfl, rfl, rfl, rfl, rfl, rfl, rfl⟩, v.heap.size, 0, fun _ => ⟨rfl, hlo, by simp⟩, h1⟩
  exact NodeV.keep hk (Nat.le_refl _) _ _ h2
/-- A list of nodes that lies in a block. -/
theorem kids_at {w : World} {A : Nat → Prop} {ofs : Nat → Int} {b T : Nat} : ∀ (ks : List Tree) (xs : List NV) (pre : List Value), ks.length = xs.length → (∀ (i : Nat) (h : i < ks.length) (h' : i < xs.length), NodeA w A ofs ks[i] xs[i]) →
    w.heap[b]? = some (.cells (pre ++ xs.flatMap NV.cells).toArray T) → KidsA w A ofs b pre.length ks := by
  intro ks
  induction ks with
  | nil => intro xs pre _ _ _; simp only [KidsA]
  | cons k ks ih =>
    intro xs pre hl hn hb
    cases xs with
    | nil => cases hl
    | cons x xs =>
      simp only [KidsA]
      refine ⟨⟨x, fun j v hv => ?_, hn 0 (by simp) (by simp)⟩, ?_⟩
      · rw [cell_of_row _ _ _ _ _ _ hb, List.getElem?_toArray, List.getElem?_append_right (by omega), Nat.add_sub_cancel_left, List.flatMap_cons, List.getElem?_append_left (List.getElem?_eq_some_iff.1 hv).1]
        exact hv
      · have := ih xs (pre ++ x.cells) (by simpa using hl) (fun i h h' => by have := hn (i + 1) (by simpa using h) (by simpa using h'); simpa using this) (by rw [hb, List.flatMap_cons, List.append_assoc])
        rw [List.length_append, show x.cells.length = 10 from rfl] at this
        exact this
theorem node_at {w : World} {A : Nat → Prop} {b T : Nat} {ofs : Nat → Int} (ks : List Tree) (xs : List NV) (op : Int) (pl : Nat) (c : Nat) (hl : ks.length = xs.length) (hlo : A b) (h : ∀ (i : Nat) (h : i < ks.length) (h' : i < xs.length), NodeA w A ofs ks[i] xs[i])
    (hb : w.heap[b]? = some (.cells (xs.flatMap NV.cells).toArray T)) : NodeA w A ofs (.mk op pl [] 0 0 1 ks) ⟨op, ofs pl, ⟨#[]⟩, 0, 0, false, 0, 0, 0, some ⟨b, 0, none⟩, ks.length, c⟩ := by
  have h1 := kids_at (T := T) ks xs [] hl h (by rw [List.nil_append]; exact hb)
  unfold NodeA
  refine ⟨⟨rfl, rfl, rfl, rfl, rfl, rfl, rfl, rfl, rfl, rfl⟩, b, 0, fun _ => ⟨rfl, hlo, ?_⟩, h1⟩
  rcases Nat.lt_or_ge b w.heap.size with z | z
  · exact z
  · rw [Array.getElem?_eq_none z] at hb; cases hb
theorem heap_past {w : World} (o : Obj) {b : Nat} {x : Obj} (h : w.heap[b]? = some x) : (w.alloc o).heap[b]? = some x := by
  have hb : b < w.heap.size := by
    rcases Nat.lt_or_ge b w.heap.size with z | z
    · exact z
    · rw [Array.getElem?_eq_none z] at h; cases h
  exact (((Below.refl w.heap.size w).alloc (Nat.le_refl _) o).block b hb).trans h
theorem heap_other {w : World} {b r o : Nat} {x : Obj} {y : Value} (h : w.heap[b]? = some x) (hr : b ≠ r) : (w.setCell ⟨r, o, none⟩ y).heap[b]? = some x := (Below.heap_setCell _ _ _ _ hr).trans h
def zNode : List Value := [.int .i64 0, .int .i64 0, .string ⟨#[]⟩, .int .i64 0, .int .i64 0, .bool false, .int .i64 0, .int .i64 0, .int .i64 0, .slice none 0 0]
/-- A node's value. -/
def nv (x : NV) : Value := .agg #[.int .i64 x.o, .int .i64 x.a, .string x.s, .int .i64 x.n, .int .i64 x.d, .bool x.f, .int .i64 x.m, .int .i64 x.r, .int .i64 x.y, .slice x.q x.k x.c]
theorem B10.put {w : World} {b : Nat} {x0 x1 x2 x3 x4 x5 x6 x7 x8 x9 : Value} (h : B10 w b x0 x1 x2 x3 x4 x5 x6 x7 x8 x9) (y0 y1 y2 y3 y4 y5 y6 y7 y8 y9 : Value) :
    B10 ((((((((((w.setCell ⟨b, 0, none⟩ y0).setCell ⟨b, 1, none⟩ y1).setCell ⟨b, 2, none⟩ y2).setCell ⟨b, 3, none⟩ y3).setCell ⟨b, 4, none⟩ y4).setCell ⟨b, 5, none⟩ y5).setCell ⟨b, 6, none⟩ y6).setCell ⟨b, 7, none⟩ y7).setCell ⟨b, 8, none⟩ y8).setCell ⟨b, 9, none⟩ y9) b y0 y1 y2 y3 y4 y5 y6 y7 y8 y9 := by
  obtain ⟨c0, c1, c2, c3, c4, c5, c6, c7, c8, c9, f0, f1, f2, f3, f4, f5, f6, f7, f8, f9⟩ := h
  exact ⟨by simp [go_sem, c0], by simp [go_sem, c1], by simp [go_sem, c2], by simp [go_sem, c3], by simp [go_sem, c4], by simp [go_sem, c5], by simp [go_sem, c6], by simp [go_sem, c7], by simp [go_sem, c8], by simp [go_sem, c9], by simp [World.frozen?_setCell, f0], by simp [World.frozen?_setCell, f1], by simp [World.frozen?_setCell, f2], by simp [World.frozen?_setCell, f3], by simp [World.frozen?_setCell, f4], by simp [World.frozen?_setCell, f5], by simp [World.frozen?_setCell, f6], by simp [World.frozen?_setCell, f7], by simp [World.frozen?_setCell, f8], by simp [World.frozen?_setCell, f9]⟩
end Go.Proofs.YtedbpjcglnkjmaaGreatDoor
namespace Go.Proofs.YtedbpjcglnkjmaaGreatDoor
open Go.RowKit Lx Pa

/-- What a panic of the parser's bears. -/
def failP (e : Int) (a : Int) : List PanicEntry := [{ v := .iface 89 (.agg #[.int .i64 a, .int .i64 e]), recovered := false }]
/-- The operators: word or sign, level, operator, whether the operands are exchanged. -/
def opTab : List (List UInt8 × Int × Int × Bool) := [(kOr, 1, 14, false), (kAnd, 2, 13, false), (sEq, 3, 9, false), (sNe, 3, 10, false), (sLt, 3, 11, false), (sLe, 3, 12, false), (sGt, 3, 11, true), (sGe, 3, 12, true), (sAdd, 4, 3, false), (sSub, 4, 4, false), (sMul, 5, 5, false), (sDiv, 5, 6, false), (kMin, 6, 7, false), (kMax, 6, 8, false)]
def opV (l o : Int) (x : Bool) : Value := .agg #[.int .i64 l, .int .i64 o, .bool x]
def opEs : List (List UInt8 × Int × Int × Bool) → Nat → List MapEntry
  | [], _ => []
  | (s, l, o, x) :: t, i => ⟨.string (bs s), opV l o x, i⟩ :: opEs t (i + 1)
def opObj : Obj := .map (opEs opTab 0).toArray 14
/-- The tokens of a source: where a number is, there is no text; words are no semicolons. -/
def TokOk (ts : List Tok) : Prop := ∀ t ∈ ts, (t.k = 1 ∨ t.k = 2 ∨ t.k = 3) ∧ (t.k = 2 → t.t = []) ∧ (t.k = 1 → t.t ≠ sSc ∧ t.t ≠ sLp) ∧ -9223372036854775808 ≤ t.n ∧ t.n ≤ 9223372036854775807 ∧ -9223372036854775808 ≤ t.d ∧ t.d ≤ 9223372036854775807
/-- Block b is a reader of tokens, which passed k of them. -/
structure Rd (w : World) (b : Nat) (p : Option Addr) (cap qb : Nat) (ts : List Tok) (En mb k : Nat) : Prop where
  c0 : w.cell? ⟨b, 0, none⟩ = some (.slice p ts.length cap)
  c1 : w.cell? ⟨b, 1, none⟩ = some (.int .i64 k)
  c2 : w.cell? ⟨b, 2, none⟩ = some (.int .i64 En)
  c3 : w.cell? ⟨b, 3, none⟩ = some (.map (some mb))
  f1 : w.frozen? ⟨b, 1, none⟩ = false
  tk : SlT w p qb 0 ts.length ts
  tb : 0 < ts.length → qb ≠ b
  mp : w.heap[mb]? = some opObj
  mn : mb ≠ b
  kl : k ≤ ts.length
  ok : TokOk ts
section
variable {w w1 u v w0 : World} {b cap qb En mb k k' : Nat} {p : Option Addr} {ts : List Tok}
theorem Rd.lt (h : Rd w b p cap qb ts En mb k) : b < w.heap.size := World.block_lt_of_cell? _ _ h.c0
theorem Rd.ml (h : Rd w b p cap qb ts En mb k) : mb < w.heap.size := by
  have := h.mp
  rcases Nat.lt_or_ge mb w.heap.size with z | z
  · exact z
  · rw [Array.getElem?_eq_none z] at this; cases this
theorem Rd.of (h : Rd w b p cap qb ts En mb k) (hs : w.heap.size ≤ w1.heap.size) (hb : ∀ j, j < w.heap.size → (j = b ∨ j = mb ∨ (0 < ts.length ∧ j = qb)) → w1.heap[j]? = w.heap[j]?) : Rd w1 b p cap qb ts En mb k := by
  have c : ∀ o, w1.cell? ⟨b, o, none⟩ = w.cell? ⟨b, o, none⟩ := fun o => World.cell?_of_block (w := w) (a := ⟨b, o, none⟩) (hb b h.lt (.inl rfl))
  have f : ∀ o, w1.frozen? ⟨b, o, none⟩ = w.frozen? ⟨b, o, none⟩ := fun o => World.frozen?_of_block (w := w) (a := ⟨b, o, none⟩) (hb b h.lt (.inl rfl))
  exact ⟨(c 0).trans h.c0, (c 1).trans h.c1, (c 2).trans h.c2, (c 3).trans h.c3, (f 1).trans h.f1, h.tk.of_block (fun z => hb qb (h.tk.lt z) (.inr (.inr ⟨z, rfl⟩))) hs, h.tb, (hb mb h.ml (.inr (.inl rfl))).trans h.mp, h.mn, h.kl, h.ok⟩
theorem Rd.bel (h : Rd w b p cap qb ts En mb k) (hB : RowKit.Below w.heap.size w w1) : Rd w1 b p cap qb ts En mb k := h.of hB.size fun j hj _ => hB.block j hj
theorem Rd.other (h : Rd w b p cap qb ts En mb k) (r o : Nat) (s : Option Nat) (x : Value) (hr : r ≠ b ∧ r ≠ mb ∧ (0 < ts.length → r ≠ qb)) : Rd (w.setCell ⟨r, o, s⟩ x) b p cap qb ts En mb k := by
  refine h.of (by simp [World.setCell]) fun j hj hk => Below.heap_setCell _ _ _ _ ?_
  rintro rfl
  rcases hk with rfl | rfl | ⟨z, rfl⟩
  · exact hr.1 rfl
  · exact hr.2.1 rfl
  · exact hr.2.2 z rfl
theorem Rd.next (h : Rd w b p cap qb ts En mb k) (hk : k' ≤ ts.length) : Rd (w.setCell ⟨b, 1, none⟩ (.int .i64 k')) b p cap qb ts En mb k' := by
  have NE : ∀ o, o ≠ 1 → (w.setCell ⟨b, 1, none⟩ (.int .i64 k')).cell? ⟨b, o, none⟩ = w.cell? ⟨b, o, none⟩ := fun o ho => World.cell?_setCell_other w _ _ _ (by intro e; injection e with _ e2 _; exact ho e2.symm)
  refine ⟨(NE 0 (by decide)).trans h.c0, World.cell?_setCell_same _ _ _ h.c1, (NE 2 (by decide)).trans h.c2, (NE 3 (by decide)).trans h.c3, by rw [World.frozen?_setCell]; exact h.f1, h.tk.of_block (fun z => Below.heap_setCell _ _ _ _ (h.tb z)) (by simp [World.setCell]), h.tb, ?_, h.mn, hk, h.ok⟩
  rw [Below.heap_setCell _ _ _ _ h.mn]; exact h.mp
/-- How things stand within a method of the reader's. -/
structure Sx (w0 w : World) (b : Nat) (p : Option Addr) (cap qb : Nat) (ts : List Tok) (En mb k : Nat) : Prop where
  kp : Kept b w0 w
  rd : Rd w b p cap qb ts En mb k
  bl : b < w0.heap.size
  ml : mb < w0.heap.size
  ql : 0 < ts.length → qb < w0.heap.size
theorem Sx.start (h : Rd w b p cap qb ts En mb k) : Sx w w b p cap qb ts En mb k := ⟨Kept.refl _ _, h, h.lt, h.ml, h.tk.lt⟩
theorem Sx.bel (h : Sx w0 w b p cap qb ts En mb k) (hB : RowKit.Below w.heap.size w w1) : Sx w0 w1 b p cap qb ts En mb k := ⟨h.kp.bel hB, h.rd.bel hB, h.bl, h.ml, h.ql⟩
theorem Sx.call (h : Sx w0 w b p cap qb ts En mb k) (hk : Kept b w w1) (hr : Rd w1 b p cap qb ts En mb k') : Sx w0 w1 b p cap qb ts En mb k' := ⟨h.kp.trans hk, hr, h.bl, h.ml, h.ql⟩
theorem Sx.next (h : Sx w0 w b p cap qb ts En mb k) (hk : k' ≤ ts.length) : Sx w0 (w.setCell ⟨b, 1, none⟩ (.int .i64 k')) b p cap qb ts En mb k' := ⟨h.kp.setCell 1 none _, h.rd.next hk, h.bl, h.ml, h.ql⟩
theorem Sx.other (h : Sx w0 w b p cap qb ts En mb k) {r : Nat} (hr : w0.heap.size ≤ r) (o : Nat) (x : Value) : Sx w0 (w.setCell ⟨r, o, none⟩ x) b p cap qb ts En mb k :=
  ⟨h.kp.other hr o x, h.rd.other r o none x ⟨by have := h.bl; omega, by have := h.ml; omega, fun z => by have := h.ql z; omega⟩, h.bl, h.ml, h.ql⟩
theorem Sx.alloc (h : Sx w0 w b p cap qb ts En mb k) (o : Obj) : Sx w0 (w.alloc o) b p cap qb ts En mb k := h.bel ((Below.refl _ _).alloc (Nat.le_refl _) _)
theorem Sx.drew (h : Sx w0 w b p cap qb ts En mb k) : Sx w0 w.drew b p cap qb ts En mb k := h.bel (Below.refl _ _).drew
theorem Sx.drewN (h : Sx w0 w b p cap qb ts En mb k) (n : Nat) : Sx w0 (w.drewN n) b p cap qb ts En mb k := h.bel (below_drewN (Below.refl _ _) n)
theorem B10.call {x0 x1 x2 x3 x4 x5 x6 x7 x8 x9 : Value} {r : Nat} (h : B10 w r x0 x1 x2 x3 x4 x5 x6 x7 x8 x9) (hk : Kept b w w1) (hr : r ≠ b) : B10 w1 r x0 x1 x2 x3 x4 x5 x6 x7 x8 x9 := h.of (hk.block r (World.block_lt_of_cell? _ _ h.c0) hr)
theorem B5.call {x0 x1 x2 x3 x4 : Value} {r : Nat} (h : B5 w r x0 x1 x2 x3 x4) (hk : Kept b w w1) (hr : r ≠ b) : B5 w1 r x0 x1 x2 x3 x4 := h.of (hk.block r (World.block_lt_of_cell? _ _ h.c0) hr)
theorem Kfr.kept {lo : Nat} (h : Kept b w w1) (hb : b < lo) : Kfr lo w w1 := ⟨h.size, fun j h1 h2 => h.block j h2 (by omega)⟩
end
/-- The next token; behind the last one a token of no kind, at the end of the source. -/
def pk (ts : List Tok) (En k : Nat) : Tok := (ts[k]?).getD ⟨0, En, [], 0, 0⟩
theorem pk_in {ts : List Tok} {En k : Nat} (h : k < ts.length) : pk ts En k = ts[k] := by unfold pk; rw [List.getElem?_eq_getElem h]; rfl
theorem pk_end {ts : List Tok} {En k : Nat} (h : ts.length ≤ k) : pk ts En k = ⟨0, En, [], 0, 0⟩ := by unfold pk; rw [List.getElem?_eq_none h]; rfl
theorem pk_offs {ts : List Tok} {En k : Nat} (h : k ≤ ts.length) : (pk ts En k).a = offs ts En (ts.length - k) := by
  rcases Nat.lt_or_ge k ts.length with z | z
  · rw [pk_in z, offs_at z rfl]
  · rw [pk_end z, show ts.length - k = 0 by omega, offs_end]
theorem pk_cons {ts : List Tok} {En k : Nat} (h : k < ts.length) : ts.drop k = pk ts En k :: ts.drop (k + 1) := by rw [pk_in h]; exact List.drop_eq_getElem_cons h
theorem pk_isW {ts : List Tok} {En k : Nat} (hk : TokOk ts) {s : List UInt8} (hs : s ≠ []) : isW s (ts.drop k) = ((pk ts En k).t == s) := by
  rcases Nat.lt_or_ge k ts.length with z | z
  · rw [pk_cons (En := En) z]
    show isT s _ = _
    unfold isT
    by_cases h2 : (pk ts En k).k = 2
    · have := (hk _ (List.getElem_mem z)).2.1 (by rw [← pk_in (En := En) z]; exact h2)
      rw [← pk_in (En := En) z] at this
      rw [this, decide_eq_false (by simp [h2]), Bool.false_and]
      cases s with
      | nil => exact absurd rfl hs
      | cons a l => rfl
    · rw [decide_eq_true h2, Bool.true_and]
  · rw [pk_end z, List.drop_eq_nil_of_le z]
    cases s with
    | nil => exact absurd rfl hs
    | cons a l => rfl
theorem pk_isA {ts : List Tok} {En k : Nat} (hk : TokOk ts) : isA (ts.drop k) = (decide ((pk ts En k).k = 1) && !(reserved.contains (pk ts En k).t)) := by
  rcases Nat.lt_or_ge k ts.length with z | z
  · rw [pk_cons (En := En) z]
    unfold isA
    by_cases h1 : (pk ts En k).k = 1
    · have := ((hk _ (List.getElem_mem z)).2.2.1 (by rw [← pk_in (En := En) z]; exact h1)).1
      rw [← pk_in (En := En) z] at this
      have e : ((pk ts En k).t == sSc) = false := by simpa using this
      simp only [e, Bool.not_false, Bool.and_true]
    · simp only [decide_eq_false h1, Bool.false_and]
  · rw [pk_end z, List.drop_eq_nil_of_le z]
    rfl
theorem pk_isN {ts : List Tok} {En k : Nat} : isN (ts.drop k) = decide ((pk ts En k).k = 2) := by
  rcases Nat.lt_or_ge k ts.length with z | z
  · rw [pk_cons (En := En) z]; rfl
  · rw [pk_end z, List.drop_eq_nil_of_le z]; rfl
end Go.Proofs.YtedbpjcglnkjmaaGreatDoor
namespace Go.Proofs.YtedbpjcglnkjmaaGreatDoor
open Go.RowKit

section
variable {P : Program} {md : Region.Mode} {Q : Exit → Act → World → Prop} {S : World → Prop}
theorem tk0 {o0 : Oper} {r : List Oper} {v : Value} {fuel : Nat} {listed : Array Bool} {a : Act} {w : World} (hs : Region.noSelect (List.toArray (o0 :: r)) = true) (hf : Region.free md (List.toArray (o0 :: r)) listed 0 = true)
    (hr : (Region.ready md (List.toArray (o0 :: r)) listed).contains 0 = true) (hQ : ∀ c a w, Q (.panic c) (a.put o0.dst v) w → Q (.panic c) a w) (hy : YieldsIf P (List.toArray (o0 :: r)) S o0 v a) (hS : S w)
    (h : wpAnyH P md (List.toArray (o0 :: r)) Q S fuel (listed.setIfInBounds 0 true) (a.put o0.dst v) w) : wpAnyH P md (List.toArray (o0 :: r)) Q S (fuel + 1) listed a w := wpAnyH_take (i := 0) rfl hs hf hr hQ hy hS h
theorem st0 {o0 : Oper} {r : List Oper} {fuel : Nat} {listed : Array Bool} {a : Act} {w : World} {rs : List Nat}
    (h : ∀ K' : Act → World → Prop, Shut (∀ a w, S w → (S w → wpAnyH P md (List.toArray (o0 :: r)) Q S fuel (listed.setIfInBounds 0 true) a w) → K' a w) → if Region.wanted o0 (yielded (List.toArray (o0 :: r)) a.tmps) = true then Oper.wp P o0 a w K' Q else K' (a.put o0.dst undef) w)
    (hs : AllReadyH P md (List.toArray (o0 :: r)) Q S fuel listed a w rs) : AllReadyH P md (List.toArray (o0 :: r)) Q S fuel listed a w (0 :: rs) := AllReadyH.cons (i := 0) rfl h hs
theorem tk1 {o0 o1 : Oper} {r : List Oper} {v : Value} {fuel : Nat} {listed : Array Bool} {a : Act} {w : World} (hs : Region.noSelect (List.toArray (o0 :: o1 :: r)) = true) (hf : Region.free md (List.toArray (o0 :: o1 :: r)) listed 1 = true)
    (hr : (Region.ready md (List.toArray (o0 :: o1 :: r)) listed).contains 1 = true) (hQ : ∀ c a w, Q (.panic c) (a.put o1.dst v) w → Q (.panic c) a w) (hy : YieldsIf P (List.toArray (o0 :: o1 :: r)) S o1 v a) (hS : S w)
    (h : wpAnyH P md (List.toArray (o0 :: o1 :: r)) Q S fuel (listed.setIfInBounds 1 true) (a.put o1.dst v) w) : wpAnyH P md (List.toArray (o0 :: o1 :: r)) Q S (fuel + 1) listed a w := wpAnyH_take (i := 1) rfl hs hf hr hQ hy hS h
theorem st1 {o0 o1 : Oper} {r : List Oper} {fuel : Nat} {listed : Array Bool} {a : Act} {w : World} {rs : List Nat}
    (h : ∀ K' : Act → World → Prop, Shut (∀ a w, S w → (S w → wpAnyH P md (List.toArray (o0 :: o1 :: r)) Q S fuel (listed.setIfInBounds 1 true) a w) → K' a w) → if Region.wanted o1 (yielded (List.toArray (o0 :: o1 :: r)) a.tmps) = true then Oper.wp P o1 a w K' Q else K' (a.put o1.dst undef) w)
    (hs : AllReadyH P md (List.toArray (o0 :: o1 :: r)) Q S fuel listed a w rs) : AllReadyH P md (List.toArray (o0 :: o1 :: r)) Q S fuel listed a w (1 :: rs) := AllReadyH.cons (i := 1) rfl h hs
theorem tk2 {o0 o1 o2 : Oper} {r : List Oper} {v : Value} {fuel : Nat} {listed : Array Bool} {a : Act} {w : World} (hs : Region.noSelect (List.toArray (o0 :: o1 :: o2 :: r)) = true) (hf : Region.free md (List.toArray (o0 :: o1 :: o2 :: r)) listed 2 = true)
    (hr : (Region.ready md (List.toArray (o0 :: o1 :: o2 :: r)) listed).contains 2 = true) (hQ : ∀ c a w, Q (.panic c) (a.put o2.dst v) w → Q (.panic c) a w) (hy : YieldsIf P (List.toArray (o0 :: o1 :: o2 :: r)) S o2 v a) (hS : S w)
    (h : wpAnyH P md (List.toArray (o0 :: o1 :: o2 :: r)) Q S fuel (listed.setIfInBounds 2 true) (a.put o2.dst v) w) : wpAnyH P md (List.toArray (o0 :: o1 :: o2 :: r)) Q S (fuel + 1) listed a w := wpAnyH_take (i := 2) rfl hs hf hr hQ hy hS h
theorem st2 {o0 o1 o2 : Oper} {r : List Oper} {fuel : Nat} {listed : Array Bool} {a : Act} {w : World} {rs : List Nat}
    (h : ∀ K' : Act → World → Prop, Shut (∀ a w, S w → (S w → wpAnyH P md (List.toArray (o0 :: o1 :: o2 :: r)) Q S fuel (listed.setIfInBounds 2 true) a w) → K' a w) → if Region.wanted o2 (yielded (List.toArray (o0 :: o1 :: o2 :: r)) a.tmps) = true then Oper.wp P o2 a w K' Q else K' (a.put o2.dst undef) w)
    (hs : AllReadyH P md (List.toArray (o0 :: o1 :: o2 :: r)) Q S fuel listed a w rs) : AllReadyH P md (List.toArray (o0 :: o1 :: o2 :: r)) Q S fuel listed a w (2 :: rs) := AllReadyH.cons (i := 2) rfl h hs
theorem tk3 {o0 o1 o2 o3 : Oper} {r : List Oper} {v : Value} {fuel : Nat} {listed : Array Bool} {a : Act} {w : World} (hs : Region.noSelect (List.toArray (o0 :: o1 :: o2 :: o3 :: r)) = true) (hf : Region.free md (List.toArray (o0 :: o1 :: o2 :: o3 :: r)) listed 3 = true)
    (hr : (Region.ready md (List.toArray (o0 :: o1 :: o2 :: o3 :: r)) listed).contains 3 = true) (hQ : ∀ c a w, Q (.panic c) (a.put o3.dst v) w → Q (.panic c) a w) (hy : YieldsIf P (List.toArray (o0 :: o1 :: o2 :: o3 :: r)) S o3 v a) (hS : S w)
    (h : wpAnyH P md (List.toArray (o0 :: o1 :: o2 :: o3 :: r)) Q S fuel (listed.setIfInBounds 3 true) (a.put o3.dst v) w) : wpAnyH P md (List.toArray (o0 :: o1 :: o2 :: o3 :: r)) Q S (fuel + 1) listed a w := wpAnyH_take (i := 3) rfl hs hf hr hQ hy hS h
theorem st3 {o0 o1 o2 o3 : Oper} {r : List Oper} {fuel : Nat} {listed : Array Bool} {a : Act} {w : World} {rs : List Nat}
    (h : ∀ K' : Act → World → Prop, Shut (∀ a w, S w → (S w → wpAnyH P md (List.toArray (o0 :: o1 :: o2 :: o3 :: r)) Q S fuel (listed.setIfInBounds 3 true) a w) → K' a w) → if Region.wanted o3 (yielded (List.toArray (o0 :: o1 :: o2 :: o3 :: r)) a.tmps) = true then Oper.wp P o3 a w K' Q else K' (a.put o3.dst undef) w)
    (hs : AllReadyH P md (List.toArray (o0 :: o1 :: o2 :: o3 :: r)) Q S fuel listed a w rs) : AllReadyH P md (List.toArray (o0 :: o1 :: o2 :: o3 :: r)) Q S fuel listed a w (3 :: rs) := AllReadyH.cons (i := 3) rfl h hs
theorem tk4 {o0 o1 o2 o3 o4 : Oper} {r : List Oper} {v : Value} {fuel : Nat} {listed : Array Bool} {a : Act} {w : World} (hs : Region.noSelect (List.toArray (o0 :: o1 :: o2 :: o3 :: o4 :: r)) = true) (hf : Region.free md (List.toArray (o0 :: o1 :: o2 :: o3 :: o4 :: r)) listed 4 = true)
    (hr : (Region.ready md (List.toArray (o0 :: o1 :: o2 :: o3 :: o4 :: r)) listed).contains 4 = true) (hQ : ∀ c a w, Q (.panic c) (a.put o4.dst v) w → Q (.panic c) a w) (hy : YieldsIf P (List.toArray (o0 :: o1 :: o2 :: o3 :: o4 :: r)) S o4 v a) (hS : S w)
    (h : wpAnyH P md (List.toArray (o0 :: o1 :: o2 :: o3 :: o4 :: r)) Q S fuel (listed.setIfInBounds 4 true) (a.put o4.dst v) w) : wpAnyH P md (List.toArray (o0 :: o1 :: o2 :: o3 :: o4 :: r)) Q S (fuel + 1) listed a w := wpAnyH_take (i := 4) rfl hs hf hr hQ hy hS h
theorem st4 {o0 o1 o2 o3 o4 : Oper} {r : List Oper} {fuel : Nat} {listed : Array Bool} {a : Act} {w : World} {rs : List Nat}
    (h : ∀ K' : Act → World → Prop, Shut (∀ a w, S w → (S w → wpAnyH P md (List.toArray (o0 :: o1 :: o2 :: o3 :: o4 :: r)) Q S fuel (listed.setIfInBounds 4 true) a w) → K' a w) → if Region.wanted o4 (yielded (List.toArray (o0 :: o1 :: o2 :: o3 :: o4 :: r)) a.tmps) = true then Oper.wp P o4 a w K' Q else K' (a.put o4.dst undef) w)
    (hs : AllReadyH P md (List.toArray (o0 :: o1 :: o2 :: o3 :: o4 :: r)) Q S fuel listed a w rs) : AllReadyH P md (List.toArray (o0 :: o1 :: o2 :: o3 :: o4 :: r)) Q S fuel listed a w (4 :: rs) := AllReadyH.cons (i := 4) rfl h hs
theorem tk5 {o0 o1 o2 o3 o4 o5 : Oper} {r : List Oper} {v : Value} {fuel : Nat} {listed : Array Bool} {a : Act} {w : World} (hs : Region.noSelect (List.toArray (o0 :: o1 :: o2 :: o3 :: o4 :: o5 :: r)) = true) (hf : Region.free md (List.toArray (o0 :: o1 :: o2 :: o3 :: o4 :: o5 :: r)) listed 5 = true)
    (hr : (Region.ready md (List.toArray (o0 :: o1 :: o2 :: o3 :: o4 :: o5 :: r)) listed).contains 5 = true) (hQ : ∀ c a w, Q (.panic c) (a.put o5.dst v) w → Q (.panic c) a w) (hy : YieldsIf P (List.toArray (o0 :: o1 :: o2 :: o3 :: o4 :: o5 :: r)) S o5 v a) (hS : S w)
    (h : wpAnyH P md (List.toArray (o0 :: o1 :: o2 :: o3 :: o4 :: o5 :: r)) Q S fuel (listed.setIfInBounds 5 true) (a.put o5.dst v) w) : wpAnyH P md (List.toArray (o0 :: o1 :: o2 :: o3 :: o4 :: o5 :: r)) Q S (fuel + 1) listed a w := wpAnyH_take (i := 5) rfl hs hf hr hQ hy hS h
theorem st5 {o0 o1 o2 o3 o4 o5 : Oper} {r : List Oper} {fuel : Nat} {listed : Array Bool} {a : Act} {w : World} {rs : List Nat}
    (h : ∀ K' : Act → World → Prop, Shut (∀ a w, S w → (S w → wpAnyH P md (List.toArray (o0 :: o1 :: o2 :: o3 :: o4 :: o5 :: r)) Q S fuel (listed.setIfInBounds 5 true) a w) → K' a w) → if Region.wanted o5 (yielded (List.toArray (o0 :: o1 :: o2 :: o3 :: o4 :: o5 :: r)) a.tmps) = true then Oper.wp P o5 a w K' Q else K' (a.put o5.dst undef) w)
    (hs : AllReadyH P md (List.toArray (o0 :: o1 :: o2 :: o3 :: o4 :: o5 :: r)) Q S fuel listed a w rs) : AllReadyH P md (List.toArray (o0 :: o1 :: o2 :: o3 :: o4 :: o5 :: r)) Q S fuel listed a w (5 :: rs) := AllReadyH.cons (i := 5) rfl h hs
theorem tk6 {o0 o1 o2 o3 o4 o5 o6 : Oper} {r : List Oper} {v : Value} {fuel : Nat} {listed : Array Bool} {a : Act} {w : World} (hs : Region.noSelect (List.toArray (o0 :: o1 :: o2 :: o3 :: o4 :: o5 :: o6 :: r)) = true) (hf : Region.free md (List.toArray (o0 :: o1 :: o2 :: o3 :: o4 :: o5 :: o6 :: r)) listed 6 = true)
    (hr : (Region.ready md (List.toArray (o0 :: o1 :: o2 :: o3 :: o4 :: o5 :: o6 :: r)) listed).contains 6 = true) (hQ : ∀ c a w, Q (.panic c) (a.put o6.dst v) w → Q (.panic c) a w) (hy : YieldsIf P (List.toArray (o0 :: o1 :: o2 :: o3 :: o4 :: o5 :: o6 :: r)) S o6 v a) (hS : S w)
    (h : wpAnyH P md (List.toArray (o0 :: o1 :: o2 :: o3 :: o4 :: o5 :: o6 :: r)) Q S fuel (listed.setIfInBounds 6 true) (a.put o6.dst v) w) : wpAnyH P md (List.toArray (o0 :: o1 :: o2 :: o3 :: o4 :: o5 :: o6 :: r)) Q S (fuel + 1) listed a w := wpAnyH_take (i := 6) rfl hs hf hr hQ hy hS h
theorem st6 {o0 o1 o2 o3 o4 o5 o6 : Oper} {r : List Oper} {fuel : Nat} {listed : Array Bool} {a : Act} {w : World} {rs : List Nat}
    (h : ∀ K' : Act → World → Prop, Shut (∀ a w, S w → (S w → wpAnyH P md (List.toArray (o0 :: o1 :: o2 :: o3 :: o4 :: o5 :: o6 :: r)) Q S fuel (listed.setIfInBounds 6 true) a w) → K' a w) → if Region.wanted o6 (yielded (List.toArray (o0 :: o1 :: o2 :: o3 :: o4 :: o5 :: o6 :: r)) a.tmps) = true then Oper.wp P o6 a w K' Q else K' (a.put o6.dst undef) w)
    (hs : AllReadyH P md (List.toArray (o0 :: o1 :: o2 :: o3 :: o4 :: o5 :: o6 :: r)) Q S fuel listed a w rs) : AllReadyH P md (List.toArray (o0 :: o1 :: o2 :: o3 :: o4 :: o5 :: o6 :: r)) Q S fuel listed a w (6 :: rs) := AllReadyH.cons (i := 6) rfl h hs
theorem tk7 {o0 o1 o2 o3 o4 o5 o6 o7 : Oper} {r : List Oper} {v : Value} {fuel : Nat} {listed : Array Bool} {a : Act} {w : World} (hs : Region.noSelect (List.toArray (o0 :: o1 :: o2 :: o3 :: o4 :: o5 :: o6 :: o7 :: r)) = true) (hf : Region.free md (List.toArray (o0 :: o1 :: o2 :: o3 :: o4 :: o5 :: o6 :: o7 :: r)) listed 7 = true)
    (hr : (Region.ready md (List.toArray (o0 :: o1 :: o2 :: o3 :: o4 :: o5 :: o6 :: o7 :: r)) listed).contains 7 = true) (hQ : ∀ c a w, Q (.panic c) (a.put o7.dst v) w → Q (.panic c) a w) (hy : YieldsIf P (List.toArray (o0 :: o1 :: o2 :: o3 :: o4 :: o5 :: o6 :: o7 :: r)) S o7 v a) (hS : S w)
    (h : wpAnyH P md (List.toArray (o0 :: o1 :: o2 :: o3 :: o4 :: o5 :: o6 :: o7 :: r)) Q S fuel (listed.setIfInBounds 7 true) (a.put o7.dst v) w) : wpAnyH P md (List.toArray (o0 :: o1 :: o2 :: o3 :: o4 :: o5 :: o6 :: o7 :: r)) Q S (fuel + 1) listed a w := wpAnyH_take (i := 7) rfl hs hf hr hQ hy hS h
theorem st7 {o0 o1 o2 o3 o4 o5 o6 o7 : Oper} {r : List Oper} {fuel : Nat} {listed : Array Bool} {a : Act} {w : World} {rs : List Nat}
    (h : ∀ K' : Act → World → Prop, Shut (∀ a w, S w → (S w → wpAnyH P md (List.toArray (o0 :: o1 :: o2 :: o3 :: o4 :: o5 :: o6 :: o7 :: r)) Q S fuel (listed.setIfInBounds 7 true) a w) → K' a w) → if Region.wanted o7 (yielded (List.toArray (o0 :: o1 :: o2 :: o3 :: o4 :: o5 :: o6 :: o7 :: r)) a.tmps) = true then Oper.wp P o7 a w K' Q else K' (a.put o7.dst undef) w)
    (hs : AllReadyH P md (List.toArray (o0 :: o1 :: o2 :: o3 :: o4 :: o5 :: o6 :: o7 :: r)) Q S fuel listed a w rs) : AllReadyH P md (List.toArray (o0 :: o1 :: o2 :: o3 :: o4 :: o5 :: o6 :: o7 :: r)) Q S fuel listed a w (7 :: rs) := AllReadyH.cons (i := 7) rfl h hs
theorem tk8 {o0 o1 o2 o3 o4 o5 o6 o7 o8 : Oper} {r : List Oper} {v : Value} {fuel : Nat} {listed : Array Bool} {a : Act} {w : World} (hs : Region.noSelect (List.toArray (o0 :: o1 :: o2 :: o3 :: o4 :: o5 :: o6 :: o7 :: o8 :: r)) = true) (hf : Region.free md (List.toArray (o0 :: o1 :: o2 :: o3 :: o4 :: o5 :: o6 :: o7 :: o8 :: r)) listed 8 = true)
    (hr : (Region.ready md (List.toArray (o0 :: o1 :: o2 :: o3 :: o4 :: o5 :: o6 :: o7 :: o8 :: r)) listed).contains 8 = true) (hQ : ∀ c a w, Q (.panic c) (a.put o8.dst v) w → Q (.panic c) a w) (hy : YieldsIf P (List.toArray (o0 :: o1 :: o2 :: o3 :: o4 :: o5 :: o6 :: o7 :: o8 :: r)) S o8 v a) (hS : S w)
    (h : wpAnyH P md (List.toArray (o0 :: o1 :: o2 :: o3 :: o4 :: o5 :: o6 :: o7 :: o8 :: r)) Q S fuel (listed.setIfInBounds 8 true) (a.put o8.dst v) w) : wpAnyH P md (List.toArray (o0 :: o1 :: o2 :: o3 :: o4 :: o5 :: o6 :: o7 :: o8 :: r)) Q S (fuel + 1) listed a w := wpAnyH_take (i := 8) rfl hs hf hr hQ hy hS h
theorem st8 {o0 o1 o2 o3 o4 o5 o6 o7 o8 : Oper} {r : List Oper} {fuel : Nat} {listed : Array Bool} {a : Act} {w : World} {rs : List Nat}
    (h : ∀ K' : Act → World → Prop, Shut (∀ a w, S w → (S w → wpAnyH P md (List.toArray (o0 :: o1 :: o2 :: o3 :: o4 :: o5 :: o6 :: o7 :: o8 :: r)) Q S fuel (listed.setIfInBounds 8 true) a w) → K' a w) → if Region.wanted o8 (yielded (List.toArray (o0 :: o1 :: o2 :: o3 :: o4 :: o5 :: o6 :: o7 :: o8 :: r)) a.tmps) = true then Oper.wp P o8 a w K' Q else K' (a.put o8.dst undef) w)
    (hs : AllReadyH P md (List.toArray (o0 :: o1 :: o2 :: o3 :: o4 :: o5 :: o6 :: o7 :: o8 :: r)) Q S fuel listed a w rs) : AllReadyH P md (List.toArray (o0 :: o1 :: o2 :: o3 :: o4 :: o5 :: o6 :: o7 :: o8 :: r)) Q S fuel listed a w (8 :: rs) := AllReadyH.cons (i := 8) rfl h hs
theorem tk9 {o0 o1 o2 o3 o4 o5 o6 o7 o8 o9 : Oper} {r : List Oper} {v : Value} {fuel : Nat} {listed : Array Bool} {a : Act} {w : World} (hs : Region.noSelect (List.toArray (o0 :: o1 :: o2 :: o3 :: o4 :: o5 :: o6 :: o7 :: o8 :: o9 :: r)) = true) (hf : Region.free md (List.toArray (o0 :: o1 :: o2 :: o3 :: o4 :: o5 :: o6 :: o7 :: o8 :: o9 :: r)) listed 9 = true)
    (hr : (Region.ready md (List.toArray (o0 :: o1 :: o2 :: o3 :: o4 :: o5 :: o6 :: o7 :: o8 :: o9 :: r)) listed).contains 9 = true) (hQ : ∀ c a w, Q (.panic c) (a.put o9.dst v) w → Q (.panic c) a w) (hy : YieldsIf P (List.toArray (o0 :: o1 :: o2 :: o3 :: o4 :: o5 :: o6 :: o7 :: o8 :: o9 :: r)) S o9 v a) (hS : S w)
    (h : wpAnyH P md (List.toArray (o0 :: o1 :: o2 :: o3 :: o4 :: o5 :: o6 :: o7 :: o8 :: o9 :: r)) Q S fuel (listed.setIfInBounds 9 true) (a.put o9.dst v) w) : wpAnyH P md (List.toArray (o0 :: o1 :: o2 :: o3 :: o4 :: o5 :: o6 :: o7 :: o8 :: o9 :: r)) Q S (fuel + 1) listed a w := wpAnyH_take (i := 9) rfl hs hf hr hQ hy hS h
theorem st9 {o0 o1 o2 o3 o4 o5 o6 o7 o8 o9 : Oper} {r : List Oper} {fuel : Nat} {listed : Array Bool} {a : Act} {w : World} {rs : List Nat}
    (h : ∀ K' : Act → World → Prop, Shut (∀ a w, S w → (S w → wpAnyH P md (List.toArray (o0 :: o1 :: o2 :: o3 :: o4 :: o5 :: o6 :: o7 :: o8 :: o9 :: r)) Q S fuel (listed.setIfInBounds 9 true) a w) → K' a w) → if Region.wanted o9 (yielded (List.toArray (o0 :: o1 :: o2 :: o3 :: o4 :: o5 :: o6 :: o7 :: o8 :: o9 :: r)) a.tmps) = true then Oper.wp P o9 a w K' Q else K' (a.put o9.dst undef) w)
    (hs : AllReadyH P md (List.toArray (o0 :: o1 :: o2 :: o3 :: o4 :: o5 :: o6 :: o7 :: o8 :: o9 :: r)) Q S fuel listed a w rs) : AllReadyH P md (List.toArray (o0 :: o1 :: o2 :: o3 :: o4 :: o5 :: o6 :: o7 :: o8 :: o9 :: r)) Q S fuel listed a w (9 :: rs) := AllReadyH.cons (i := 9) rfl h hs
theorem tk10 {o0 o1 o2 o3 o4 o5 o6 o7 o8 o9 o10 : Oper} {r : List Oper} {v : Value} {fuel : Nat} {listed : Array Bool} {a : Act} {w : World} (hs : Region.noSelect (List.toArray (o0 :: o1 :: o2 :: o3 :: o4 :: o5 :: o6 :: o7 :: o8 :: o9 :: o10 :: r)) = true) (hf : Region.free md (List.toArray (o0 :: o1 :: o2 :: o3 :: o4 :: o5 :: o6 :: o7 :: o8 :: o9 :: o10 :: r)) listed 10 = true)
    (hr : (Region.ready md (List.toArray (o0 :: o1 :: o2 :: o3 :: o4 :: o5 :: o6 :: o7 :: o8 :: o9 :: o10 :: r)) listed).contains 10 = true) (hQ : ∀ c a w, Q (.panic c) (a.put o10.dst v) w → Q (.panic c) a w) (hy : YieldsIf P (List.toArray (o0 :: o1 :: o2 :: o3 :: o4 :: o5 :: o6 :: o7 :: o8 :: o9 :: o10 :: r)) S o10 v a) (hS : S w)
    (h : wpAnyH P md (List.toArray (o0 :: o1 :: o2 :: o3 :: o4 :: o5 :: o6 :: o7 :: o8 :: o9 :: o10 :: r)) Q S fuel (listed.setIfInBounds 10 true) (a.put o10.dst v) w) : wpAnyH P md (List.toArray (o0 :: o1 :: o2 :: o3 :: o4 :: o5 :: o6 :: o7 :: o8 :: o9 :: o10 :: r)) Q S (fuel + 1) listed a w := wpAnyH_take (i := 10) rfl hs hf hr hQ hy hS h
theorem st10 {o0 o1 o2 o3 o4 o5 o6 o7 o8 o9 o10 : Oper} {r : List Oper} {fuel : Nat} {listed : Array Bool} {a : Act} {w : World} {rs : List Nat}
    (h : ∀ K' : Act → World → Prop, Shut (∀ a w, S w → (S w → wpAnyH P md (List.toArray (o0 :: o1 :: o2 :: o3 :: o4 :: o5 :: o6 :: o7 :: o8 :: o9 :: o10 :: r)) Q S fuel (listed.setIfInBounds 10 true) a w) → K' a w) → if Region.wanted o10 (yielded (List.toArray (o0 :: o1 :: o2 :: o3 :: o4 :: o5 :: o6 :: o7 :: o8 :: o9 :: o10 :: r)) a.tmps) = true then Oper.wp P o10 a w K' Q else K' (a.put o10.dst undef) w)
    (hs : AllReadyH P md (List.toArray (o0 :: o1 :: o2 :: o3 :: o4 :: o5 :: o6 :: o7 :: o8 :: o9 :: o10 :: r)) Q S fuel listed a w rs) : AllReadyH P md (List.toArray (o0 :: o1 :: o2 :: o3 :: o4 :: o5 :: o6 :: o7 :: o8 :: o9 :: o10 :: r)) Q S fuel listed a w (10 :: rs) := AllReadyH.cons (i := 10) rfl h hs
theorem tk11 {o0 o1 o2 o3 o4 o5 o6 o7 o8 o9 o10 o11 : Oper} {r : List Oper} {v : Value} {fuel : Nat} {listed : Array Bool} {a : Act} {w : World} (hs : Region.noSelect (List.toArray (o0 :: o1 :: o2 :: o3 :: o4 :: o5 :: o6 :: o7 :: o8 :: o9 :: o10 :: o11 :: r)) = true) (hf : Region.free md (List.toArray (o0 :: o1 :: o2 :: o3 :: o4 :: o5 :: o6 :: o7 :: o8 :: o9 :: o10 :: o11 :: r)) listed 11 = true)
    (hr : (Region.ready md (List.toArray (o0 :: o1 :: o2 :: o3 :: o4 :: o5 :: o6 :: o7 :: o8 :: o9 :: o10 :: o11 :: r)) listed).contains 11 = true) (hQ : ∀ c a w, Q (.panic c) (a.put o11.dst v) w → Q (.panic c) a w) (hy : YieldsIf P (List.toArray (o0 :: o1 :: o2 :: o3 :: o4 :: o5 :: o6 :: o7 :: o8 :: o9 :: o10 :: o11 :: r)) S o11 v a) (hS : S w)
    (h : wpAnyH P md (List.toArray (o0 :: o1 :: o2 :: o3 :: o4 :: o5 :: o6 :: o7 :: o8 :: o9 :: o10 :: o11 :: r)) Q S fuel (listed.setIfInBounds 11 true) (a.put o11.dst v) w) : wpAnyH P md (List.toArray (o0 :: o1 :: o2 :: o3 :: o4 :: o5 :: o6 :: o7 :: o8 :: o9 :: o10 :: o11 :: r)) Q S (fuel + 1) listed a w := wpAnyH_take (i := 11) rfl hs hf hr hQ hy hS h
theorem st11 {o0 o1 o2 o3 o4 o5 o6 o7 o8 o9 o10 o11 : Oper} {r : List Oper} {fuel : Nat} {listed : Array Bool} {a : Act} {w : World} {rs : List Nat}
    (h : ∀ K' : Act → World → Prop, Shut (∀ a w, S w → (S w → wpAnyH P md (List.toArray (o0 :: o1 :: o2 :: o3 :: o4 :: o5 :: o6 :: o7 :: o8 :: o9 :: o10 :: o11 :: r)) Q S fuel (listed.setIfInBounds 11 true) a w) → K' a w) → if Region.wanted o11 (yielded (List.toArray (o0 :: o1 :: o2 :: o3 :: o4 :: o5 :: o6 :: o7 :: o8 :: o9 :: o10 :: o11 :: r)) a.tmps) = true then Oper.wp P o11 a w K' Q else K' (a.put o11.dst undef) w)
    (hs : AllReadyH P md (List.toArray (o0 :: o1 :: o2 :: o3 :: o4 :: o5 :: o6 :: o7 :: o8 :: o9 :: o10 :: o11 :: r)) Q S fuel listed a w rs) : AllReadyH P md (List.toArray (o0 :: o1 :: o2 :: o3 :: o4 :: o5 :: o6 :: o7 :: o8 :: o9 :: o10 :: o11 :: r)) Q S fuel listed a w (11 :: rs) := AllReadyH.cons (i := 11) rfl h hs
theorem tk12 {o0 o1 o2 o3 o4 o5 o6 o7 o8 o9 o10 o11 o12 : Oper} {r : List Oper} {v : Value} {fuel : Nat} {listed : Array Bool} {a : Act} {w : World} (hs : Region.noSelect (List.toArray (o0 :: o1 :: o2 :: o3 :: o4 :: o5 :: o6 :: o7 :: o8 :: o9 :: o10 :: o11 :: o12 :: r)) = true) (hf : Region.free md (List.toArray (o0 :: o1 :: o2 :: o3 :: o4 :: o5 :: o6 :: o7 :: o8 :: o9 :: o10 :: o11 :: o12 :: r)) listed 12 = true)
    (hr : (Region.ready md (List.toArray (o0 :: o1 :: o2 :: o3 :: o4 :: o5 :: o6 :: o7 :: o8 :: o9 :: o10 :: o11 :: o12 :: r)) listed).contains 12 = true) (hQ : ∀ c a w, Q (.panic c) (a.put o12.dst v) w → Q (.panic c) a w) (hy : YieldsIf P (List.toArray (o0 :: o1 :: o2 :: o3 :: o4 :: o5 :: o6 :: o7 :: o8 :: o9 :: o10 :: o11 :: o12 :: r)) S o12 v a) (hS : S w)
    (h : wpAnyH P md (List.toArray (o0 :: o1 :: o2 :: o3 :: o4 :: o5 :: o6 :: o7 :: o8 :: o9 :: o10 :: o11 :: o12 :: r)) Q S fuel (listed.setIfInBounds 12 true) (a.put o12.dst v) w) : wpAnyH P md (List.toArray (o0 :: o1 :: o2 :: o3 :: o4 :: o5 :: o6 :: o7 :: o8 :: o9 :: o10 :: o11 :: o12 :: r)) Q S (fuel + 1) listed a w := wpAnyH_take (i := 12) rfl hs hf hr hQ hy hS h
theorem st12 {o0 o1 o2 o3 o4 o5 o6 o7 o8 o9 o10 o11 o12 : Oper} {r : List Oper} {fuel : Nat} {listed : Array Bool} {a : Act} {w : World} {rs : List Nat}
    (h : ∀ K' : Act → World → Prop, Shut (∀ a w, S w → (S w → wpAnyH P md (List.toArray (o0 :: o1 :: o2 :: o3 :: o4 :: o5 :: o6 :: o7 :: o8 :: o9 :: o10 :: o11 :: o12 :: r)) Q S fuel (listed.setIfInBounds 12 true) a w) → K' a w) → if Region.wanted o12 (yielded (List.toArray (o0 :: o1 :: o2 :: o3 :: o4 :: o5 :: o6 :: o7 :: o8 :: o9 :: o10 :: o11 :: o12 :: r)) a.tmps) = true then Oper.wp P o12 a w K' Q else K' (a.put o12.dst undef) w)
    (hs : AllReadyH P md (List.toArray (o0 :: o1 :: o2 :: o3 :: o4 :: o5 :: o6 :: o7 :: o8 :: o9 :: o10 :: o11 :: o12 :: r)) Q S fuel listed a w rs) : AllReadyH P md (List.toArray (o0 :: o1 :: o2 :: o3 :: o4 :: o5 :: o6 :: o7 :: o8 :: o9 :: o10 :: o11 :: o12 :: r)) Q S fuel listed a w (12 :: rs) := AllReadyH.cons (i := 12) rfl h hs
theorem tk13 {o0 o1 o2 o3 o4 o5 o6 o7 o8 o9 o10 o11 o12 o13 : Oper} {r : List Oper} {v : Value} {fuel : Nat} {listed : Array Bool} {a : Act} {w : World} (hs : Region.noSelect (List.toArray (o0 :: o1 :: o2 :: o3 :: o4 :: o5 :: o6 :: o7 :: o8 :: o9 :: o10 :: o11 :: o12 :: o13 :: r)) = true) (hf : Region.free md (List.toArray (o0 :: o1 :: o2 :: o3 :: o4 :: o5 :: o6 :: o7 :: o8 :: o9 :: o10 :: o11 :: o12 :: o13 :: r)) listed 13 = true)
    (hr : (Region.ready md (List.toArray (o0 :: o1 :: o2 :: o3 :: o4 :: o5 :: o6 :: o7 :: o8 :: o9 :: o10 :: o11 :: o12 :: o13 :: r)) listed).contains 13 = true) (hQ : ∀ c a w, Q (.panic c) (a.put o13.dst v) w → Q (.panic c) a w) (hy : YieldsIf P (List.toArray (o0 :: o1 :: o2 :: o3 :: o4 :: o5 :: o6 :: o7 :: o8 :: o9 :: o10 :: o11 :: o12 :: o13 :: r)) S o13 v a) (hS : S w)
    (h : wpAnyH P md (List.toArray (o0 :: o1 :: o2 :: o3 :: o4 :: o5 :: o6 :: o7 :: o8 :: o9 :: o10 :: o11 :: o12 :: o13 :: r)) Q S fuel (listed.setIfInBounds 13 true) (a.put o13.dst v) w) : wpAnyH P md (List.toArray (o0 :: o1 :: o2 :: o3 :: o4 :: o5 :: o6 :: o7 :: o8 :: o9 :: o10 :: o11 :: o12 :: o13 :: r)) Q S (fuel + 1) listed a w := wpAnyH_take (i := 13) rfl hs hf hr hQ hy hS h
theorem st13 {o0 o1 o2 o3 o4 o5 o6 o7 o8 o9 o10 o11 o12 o13 : Oper} {r : List Oper} {fuel : Nat} {listed : Array Bool} {a : Act} {w : World} {rs : List Nat}
    (h : ∀ K' : Act → World → Prop, Shut (∀ a w, S w → (S w → wpAnyH P md (List.toArray (o0 :: o1 :: o2 :: o3 :: o4 :: o5 :: o6 :: o7 :: o8 :: o9 :: o10 :: o11 :: o12 :: o13 :: r)) Q S fuel (listed.setIfInBounds 13 true) a w) → K' a w) → if Region.wanted o13 (yielded (List.toArray (o0 :: o1 :: o2 :: o3 :: o4 :: o5 :: o6 :: o7 :: o8 :: o9 :: o10 :: o11 :: o12 :: o13 :: r)) a.tmps) = true then Oper.wp P o13 a w K' Q else K' (a.put o13.dst undef) w)
    (hs : AllReadyH P md (List.toArray (o0 :: o1 :: o2 :: o3 :: o4 :: o5 :: o6 :: o7 :: o8 :: o9 :: o10 :: o11 :: o12 :: o13 :: r)) Q S fuel listed a w rs) : AllReadyH P md (List.toArray (o0 :: o1 :: o2 :: o3 :: o4 :: o5 :: o6 :: o7 :: o8 :: o9 :: o10 :: o11 :: o12 :: o13 :: r)) Q S fuel listed a w (13 :: rs) := AllReadyH.cons (i := 13) rfl h hs
theorem tk14 {o0 o1 o2 o3 o4 o5 o6 o7 o8 o9 o10 o11 o12 o13 o14 : Oper} {r : List Oper} {v : Value} {fuel : Nat} {listed : Array Bool} {a : Act} {w : World} (hs : Region.noSelect (List.toArray (o0 :: o1 :: o2 :: o3 :: o4 :: o5 :: o6 :: o7 :: o8 :: o9 :: o10 :: o11 :: o12 :: o13 :: o14 :: r)) = true) (hf : Region.free md (List.toArray (o0 :: o1 :: o2 :: o3 :: o4 :: o5 :: o6 :: o7 :: o8 :: o9 :: o10 :: o11 :: o12 :: o13 :: o14 :: r)) listed 14 = true)
    (hr : (Region.ready md (List.toArray (o0 :: o1 :: o2 :: o3 :: o4 :: o5 :: o6 :: o7 :: o8 :: o9 :: o10 :: o11 :: o12 :: o13 :: o14 :: r)) listed).contains 14 = true) (hQ : ∀ c a w, Q (.panic c) (a.put o14.dst v) w → Q (.panic c) a w) (hy : YieldsIf P (List.toArray (o0 :: o1 :: o2 :: o3 :: o4 :: o5 :: o6 :: o7 :: o8 :: o9 :: o10 :: o11 :: o12 :: o13 :: o14 :: r)) S o14 v a) (hS : S w)
    (h : wpAnyH P md (List.toArray (o0 :: o1 :: o2 :: o3 :: o4 :: o5 :: o6 :: o7 :: o8 :: o9 :: o10 :: o11 :: o12 :: o13 :: o14 :: r)) Q S fuel (listed.setIfInBounds 14 true) (a.put o14.dst v) w) : wpAnyH P md (List.toArray (o0 :: o1 :: o2 :: o3 :: o4 :: o5 :: o6 :: o7 :: o8 :: o9 :: o10 :: o11 :: o12 :: o13 :: o14 :: r)) Q S (fuel + 1) listed a w := wpAnyH_take (i := 14) rfl hs hf hr hQ hy hS h
theorem st14 {o0 o1 o2 o3 o4 o5 o6 o7 o8 o9 o10 o11 o12 o13 o14 : Oper} {r : List Oper} {fuel : Nat} {listed : Array Bool} {a : Act} {w : World} {rs : List Nat}
    (h : ∀ K' : Act → World → Prop, Shut (∀ a w, S w → (S w → wpAnyH P md (List.toArray (o0 :: o1 :: o2 :: o3 :: o4 :: o5 :: o6 :: o7 :: o8 :: o9 :: o10 :: o11 :: o12 :: o13 :: o14 :: r)) Q S fuel (listed.setIfInBounds 14 true) a w) → K' a w) → if Region.wanted o14 (yielded (List.toArray (o0 :: o1 :: o2 :: o3 :: o4 :: o5 :: o6 :: o7 :: o8 :: o9 :: o10 :: o11 :: o12 :: o13 :: o14 :: r)) a.tmps) = true then Oper.wp P o14 a w K' Q else K' (a.put o14.dst undef) w)
    (hs : AllReadyH P md (List.toArray (o0 :: o1 :: o2 :: o3 :: o4 :: o5 :: o6 :: o7 :: o8 :: o9 :: o10 :: o11 :: o12 :: o13 :: o14 :: r)) Q S fuel listed a w rs) : AllReadyH P md (List.toArray (o0 :: o1 :: o2 :: o3 :: o4 :: o5 :: o6 :: o7 :: o8 :: o9 :: o10 :: o11 :: o12 :: o13 :: o14 :: r)) Q S fuel listed a w (14 :: rs) := AllReadyH.cons (i := 14) rfl h hs
theorem tk15 {o0 o1 o2 o3 o4 o5 o6 o7 o8 o9 o10 o11 o12 o13 o14 o15 : Oper} {r : List Oper} {v : Value} {fuel : Nat} {listed : Array Bool} {a : Act} {w : World} (hs : Region.noSelect (List.toArray (o0 :: o1 :: o2 :: o3 :: o4 :: o5 :: o6 :: o7 :: o8 :: o9 :: o10 :: o11 :: o12 :: o13 :: o14 :: o15 :: r)) = true) (hf : Region.free md (List.toArray (o0 :: o1 :: o2 :: o3 :: o4 :: o5 :: o6 :: o7 :: o8 :: o9 :: o10 :: o11 :: o12 :: o13 :: o14 :: o15 :: r)) listed 15 = true)
    (hr : (Region.ready md (List.toArray (o0 :: o1 :: o2 :: o3 :: o4 :: o5 :: o6 :: o7 :: o8 :: o9 :: o10 :: o11 :: o12 :: o13 :: o14 :: o15 :: r)) listed).contains 15 = true) (hQ : ∀ c a w, Q (.panic c) (a.put o15.dst v) w → Q (.panic c) a w) (hy : YieldsIf P (List.toArray (o0 :: o1 :: o2 :: o3 :: o4 :: o5 :: o6 :: o7 :: o8 :: o9 :: o10 :: o11 :: o12 :: o13 :: o14 :: o15 :: r)) S o15 v a) (hS : S w)
    (h : wpAnyH P md (List.toArray (o0 :: o1 :: o2 :: o3 :: o4 :: o5 :: o6 :: o7 :: o8 :: o9 :: o10 :: o11 :: o12 :: o13 :: o14 :: o15 :: r)) Q S fuel (listed.setIfInBounds 15 true) (a.put o15.dst v) w) : wpAnyH P md (List.toArray (o0 :: o1 :: o2 :: o3 :: o4 :: o5 :: o6 :: o7 :: o8 :: o9 :: o10 :: o11 :: o12 :: o13 :: o14 :: o15 :: r)) Q S (fuel + 1) listed a w := wpAnyH_take (i := 15) rfl hs hf hr hQ hy hS h
theorem st15 {o0 o1 o2 o3 o4 o5 o6 o7 o8 o9 o10 o11 o12 o13 o14 o15 : Oper} {r : List Oper} {fuel : Nat} {listed : Array Bool} {a : Act} {w : World} {rs : List Nat}
    (h : ∀ K' : Act → World → Prop, Shut (∀ a w, S w → (S w → wpAnyH P md (List.toArray (o0 :: o1 :: o2 :: o3 :: o4 :: o5 :: o6 :: o7 :: o8 :: o9 :: o10 :: o11 :: o12 :: o13 :: o14 :: o15 :: r)) Q S fuel (listed.setIfInBounds 15 true) a w) → K' a w) → if Region.wanted o15 (yielded (List.toArray (o0 :: o1 :: o2 :: o3 :: o4 :: o5 :: o6 :: o7 :: o8 :: o9 :: o10 :: o11 :: o12 :: o13 :: o14 :: o15 :: r)) a.tmps) = true then Oper.wp P o15 a w K' Q else K' (a.put o15.dst undef) w)
    (hs : AllReadyH P md (List.toArray (o0 :: o1 :: o2 :: o3 :: o4 :: o5 :: o6 :: o7 :: o8 :: o9 :: o10 :: o11 :: o12 :: o13 :: o14 :: o15 :: r)) Q S fuel listed a w rs) : AllReadyH P md (List.toArray (o0 :: o1 :: o2 :: o3 :: o4 :: o5 :: o6 :: o7 :: o8 :: o9 :: o10 :: o11 :: o12 :: o13 :: o14 :: o15 :: r)) Q S fuel listed a w (15 :: rs) := AllReadyH.cons (i := 15) rfl h hs
end
end Go.Proofs.YtedbpjcglnkjmaaGreatDoor
