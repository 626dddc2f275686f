/-
  What the walks of layer 5 share: regions whose callees make memory of their own, numbers in the walk's form, and Make at whatever quotient.
-/
import Derived.Test.YtmjdolgcgbiajaaPRatE
import Derived.Test.YtmjdolgcgbiajaaPMath2
import Derived.WalkKit
import Derived.WalkSpells
import Derived.WalkLawsBesides
import Derived.Lib.Hide
import Derived.Deep.Draws
import Derived.Deep.LoopGhost
import Derived.Deep.QuietTactic
import Derived.BigQuiet
import Derived.Shelf.SlSortCmp.QuietGrown
namespace Go.Proofs.Ytmjdolgcgbiajaa
open Go.RowKit Pw

/-- The worlds behind w in which all that lay lies as it lay. -/
structure Bw (w : World) where
  w' : World
  h : RowKit.Below w.heap.size w w'
instance (w : World) : Inhabited (Bw w) := ⟨⟨w, Below.refl _ _⟩⟩
theorem mixed : Try.prog.follows .mixedOrders = true := by kernel_rfl
/-- A region whose order is open, whose operations read, and whose callees make memory of their own: one walk in the text's order. -/
theorem wp_region_bw {P : Program} {id : Nat} {Q : Exit → Act → World → Prop} {a : Act} {w : World} {l : List Oper} (hm : P.follows .mixedOrders = true) (hB : Region.lexB .any l.toArray = true)
    (h : wpQuiet P l.toArray (fun w' => ∃ p : Bw w, w' = p.w') (fun a' => ∀ w', (∃ p : Bw w, w' = p.w') → Q .normal a' w') l a) : (Code.region id l.toArray true).wp P Q a w :=
  wp_region_quiet (C := fun w' => ∃ p : Bw w, w' = p.w') hm hB ⟨⟨_, (Below.refl _ w).drew⟩, rfl⟩ (by simpa using h)
theorem bw_out {w w' : World} (h : ∃ p : Bw w, w' = p.w') : RowKit.Below w.heap.size w w' := by obtain ⟨p, rfl⟩ := h; exact p.h
theorem cell_bw {w : World} {a : Addr} {v : Value} (hb : a.block < w.heap.size) (h : w.cell? a = some v) : ∀ p : Bw w, p.w'.cell? a = some v := fun p => (p.h.cell hb).trans h
theorem Calls.bw_of {P : Program} {f : FuncId} {args : Array Value} {w : World} {p : Bw w} {v : Value}
    (h : Calls P f args p.w' fun e w' => e = .returned v ∧ RowKit.Below p.w'.heap.size p.w' w') : Calls P f args p.w' fun e w'' => e = .returned v ∧ ∃ q : Bw w, w'' = q.w' :=
  h.mono fun _ w' ⟨he, hb⟩ => ⟨he, ⟨w', p.h.trans (hb.mono p.h.size)⟩, rfl⟩
theorem ret_bool {a b : Bool} (h : a = b) : Ending.returned (.bool a) = .returned (.bool b) := by rw [h]
theorem ret_i64 {a b : Int} (h : a = b) : Ending.returned (.int .i64 a) = .returned (.int .i64 b) := by rw [h]

/-! ### Blocks that begin with some cells that may be written -/
structure At1 (w : World) (b : Nat) (x0 : Value) : Prop where
  c0 : w.cell? ⟨b, 0, none⟩ = some x0
  f0 : w.frozen? ⟨b, 0, none⟩ = false
theorem At1.new (w : World) (x0 : Value) (T : Nat) : At1 (w.alloc (.cells #[x0] T)) w.heap.size x0 := ⟨by simp, by simp⟩
theorem At1.below {w w1 : World} {b B : Nat} {x0 : Value} (h : At1 w b x0) (hB : RowKit.Below B w w1) (hb : b < B) : At1 w1 b x0 :=
  ⟨(hB.cell (p := ⟨b, 0, none⟩) hb).trans h.c0, (hB.frozen (p := ⟨b, 0, none⟩) hb).trans h.f0⟩
theorem At1.alloc {w : World} {b : Nat} {x0 : Value} (h : At1 w b x0) (hb : b < w.heap.size) (o : Obj) : At1 (w.alloc o) b x0 := h.below (B := w.heap.size) ((Below.refl _ _).alloc (Nat.le_refl _) _) hb
theorem At1.lt {w : World} {b : Nat} {x0 : Value} (h : At1 w b x0) : b < w.heap.size := World.block_lt_of_cell? _ _ h.c0
structure At3 (w : World) (b : Nat) (x0 x1 x2 : Value) : Prop where
  c0 : w.cell? ⟨b, 0, none⟩ = some x0
  c1 : w.cell? ⟨b, 1, none⟩ = some x1
  c2 : w.cell? ⟨b, 2, none⟩ = some x2
  f0 : w.frozen? ⟨b, 0, none⟩ = false
  f1 : w.frozen? ⟨b, 1, none⟩ = false
  f2 : w.frozen? ⟨b, 2, none⟩ = false
theorem At3.new (w : World) (x0 x1 x2 : Value) (T : Nat) : At3 (w.alloc (.cells #[x0, x1, x2] T)) w.heap.size x0 x1 x2 := ⟨by simp, by simp, by simp, by simp, by simp, by simp⟩
theorem At3.below {w w1 : World} {b B : Nat} {x0 x1 x2 : Value} (h : At3 w b x0 x1 x2) (hB : RowKit.Below B w w1) (hb : b < B) : At3 w1 b x0 x1 x2 :=
  ⟨(hB.cell (p := ⟨b, 0, none⟩) hb).trans h.c0, (hB.cell (p := ⟨b, 1, none⟩) hb).trans h.c1, (hB.cell (p := ⟨b, 2, none⟩) hb).trans h.c2, (hB.frozen (p := ⟨b, 0, none⟩) hb).trans h.f0, (hB.frozen (p := ⟨b, 1, none⟩) hb).trans h.f1, (hB.frozen (p := ⟨b, 2, none⟩) hb).trans h.f2⟩
theorem At3.alloc {w : World} {b : Nat} {x0 x1 x2 : Value} (h : At3 w b x0 x1 x2) (hb : b < w.heap.size) (o : Obj) : At3 (w.alloc o) b x0 x1 x2 := h.below (B := w.heap.size) ((Below.refl _ _).alloc (Nat.le_refl _) _) hb
theorem At3.lt {w : World} {b : Nat} {x0 x1 x2 : Value} (h : At3 w b x0 x1 x2) : b < w.heap.size := World.block_lt_of_cell? _ _ h.c0
structure At4 (w : World) (b : Nat) (x0 x1 x2 x3 : Value) : Prop where
  c0 : w.cell? ⟨b, 0, none⟩ = some x0
  c1 : w.cell? ⟨b, 1, none⟩ = some x1
  c2 : w.cell? ⟨b, 2, none⟩ = some x2
  c3 : w.cell? ⟨b, 3, none⟩ = some x3
  f0 : w.frozen? ⟨b, 0, none⟩ = false
  f1 : w.frozen? ⟨b, 1, none⟩ = false
  f2 : w.frozen? ⟨b, 2, none⟩ = false
  f3 : w.frozen? ⟨b, 3, none⟩ = false
theorem At4.new (w : World) (x0 x1 x2 x3 : Value) (T : Nat) : At4 (w.alloc (.cells #[x0, x1, x2, x3] T)) w.heap.size x0 x1 x2 x3 := ⟨by simp, by simp, by simp, by simp, by simp, by simp, by simp, by simp⟩
theorem At4.below {w w1 : World} {b B : Nat} {x0 x1 x2 x3 : Value} (h : At4 w b x0 x1 x2 x3) (hB : RowKit.Below B w w1) (hb : b < B) : At4 w1 b x0 x1 x2 x3 :=
  ⟨(hB.cell (p := ⟨b, 0, none⟩) hb).trans h.c0, (hB.cell (p := ⟨b, 1, none⟩) hb).trans h.c1, (hB.cell (p := ⟨b, 2, none⟩) hb).trans h.c2, (hB.cell (p := ⟨b, 3, none⟩) hb).trans h.c3, (hB.frozen (p := ⟨b, 0, none⟩) hb).trans h.f0, (hB.frozen (p := ⟨b, 1, none⟩) hb).trans h.f1, (hB.frozen (p := ⟨b, 2, none⟩) hb).trans h.f2, (hB.frozen (p := ⟨b, 3, none⟩) hb).trans h.f3⟩
theorem At4.alloc {w : World} {b : Nat} {x0 x1 x2 x3 : Value} (h : At4 w b x0 x1 x2 x3) (hb : b < w.heap.size) (o : Obj) : At4 (w.alloc o) b x0 x1 x2 x3 := h.below (B := w.heap.size) ((Below.refl _ _).alloc (Nat.le_refl _) _) hb
theorem At4.lt {w : World} {b : Nat} {x0 x1 x2 x3 : Value} (h : At4 w b x0 x1 x2 x3) : b < w.heap.size := World.block_lt_of_cell? _ _ h.c0
structure At5 (w : World) (b : Nat) (x0 x1 x2 x3 x4 : Value) : Prop where
  c0 : w.cell? ⟨b, 0, none⟩ = some x0
  c1 : w.cell? ⟨b, 1, none⟩ = some x1
  c2 : w.cell? ⟨b, 2, none⟩ = some x2
  c3 : w.cell? ⟨b, 3, none⟩ = some x3
  c4 : w.cell? ⟨b, 4, none⟩ = some x4
  f0 : w.frozen? ⟨b, 0, none⟩ = false
  f1 : w.frozen? ⟨b, 1, none⟩ = false
  f2 : w.frozen? ⟨b, 2, none⟩ = false
  f3 : w.frozen? ⟨b, 3, none⟩ = false
  f4 : w.frozen? ⟨b, 4, none⟩ = false
theorem At5.new (w : World) (x0 x1 x2 x3 x4 : Value) (T : Nat) : At5 (w.alloc (.cells #[x0, x1, x2, x3, x4] T)) w.heap.size x0 x1 x2 x3 x4 := ⟨by simp, by simp, by simp, by simp, by simp, by simp, by simp, by simp, by simp, by simp⟩
theorem At5.below {w w1 : World} {b B : Nat} {x0 x1 x2 x3 x4 : Value} (h : At5 w b x0 x1 x2 x3 x4) (hB : RowKit.Below B w w1) (hb : b < B) : At5 w1 b x0 x1 x2 x3 x4 :=
  ⟨(hB.cell (p := ⟨b, 0, none⟩) hb).trans h.c0, (hB.cell (p := ⟨b, 1, none⟩) hb).trans h.c1, (hB.cell (p := ⟨b, 2, none⟩) hb).trans h.c2, (hB.cell (p := ⟨b, 3, none⟩) hb).trans h.c3, (hB.cell (p := ⟨b, 4, none⟩) hb).trans h.c4, (hB.frozen (p := ⟨b, 0, none⟩) hb).trans h.f0, (hB.frozen (p := ⟨b, 1, none⟩) hb).trans h.f1, (hB.frozen (p := ⟨b, 2, none⟩) hb).trans h.f2, (hB.frozen (p := ⟨b, 3, none⟩) hb).trans h.f3, (hB.frozen (p := ⟨b, 4, none⟩) hb).trans h.f4⟩
theorem At5.alloc {w : World} {b : Nat} {x0 x1 x2 x3 x4 : Value} (h : At5 w b x0 x1 x2 x3 x4) (hb : b < w.heap.size) (o : Obj) : At5 (w.alloc o) b x0 x1 x2 x3 x4 := h.below (B := w.heap.size) ((Below.refl _ _).alloc (Nat.le_refl _) _) hb
theorem At5.lt {w : World} {b : Nat} {x0 x1 x2 x3 x4 : Value} (h : At5 w b x0 x1 x2 x3 x4) : b < w.heap.size := World.block_lt_of_cell? _ _ h.c0
structure At8 (w : World) (b : Nat) (x0 x1 x2 x3 x4 x5 x6 x7 : Value) : Prop where
  c0 : w.cell? ⟨b, 0, none⟩ = some x0
  c1 : w.cell? ⟨b, 1, none⟩ = some x1
  c2 : w.cell? ⟨b, 2, none⟩ = some x2
  c3 : w.cell? ⟨b, 3, none⟩ = some x3
  c4 : w.cell? ⟨b, 4, none⟩ = some x4
  c5 : w.cell? ⟨b, 5, none⟩ = some x5
  c6 : w.cell? ⟨b, 6, none⟩ = some x6
  c7 : w.cell? ⟨b, 7, none⟩ = some x7
  f0 : w.frozen? ⟨b, 0, none⟩ = false
  f1 : w.frozen? ⟨b, 1, none⟩ = false
  f2 : w.frozen? ⟨b, 2, none⟩ = false
  f3 : w.frozen? ⟨b, 3, none⟩ = false
  f4 : w.frozen? ⟨b, 4, none⟩ = false
  f5 : w.frozen? ⟨b, 5, none⟩ = false
  f6 : w.frozen? ⟨b, 6, none⟩ = false
  f7 : w.frozen? ⟨b, 7, none⟩ = false
theorem At8.new (w : World) (x0 x1 x2 x3 x4 x5 x6 x7 : Value) (T : Nat) : At8 (w.alloc (.cells #[x0, x1, x2, x3, x4, x5, x6, x7] T)) w.heap.size x0 x1 x2 x3 x4 x5 x6 x7 := ⟨by simp, by simp, by simp, by simp, by simp, by simp, by simp, by simp, by simp, by simp, by simp, by simp, by simp, by simp, by simp, by simp⟩
theorem At8.below {w w1 : World} {b B : Nat} {x0 x1 x2 x3 x4 x5 x6 x7 : Value} (h : At8 w b x0 x1 x2 x3 x4 x5 x6 x7) (hB : RowKit.Below B w w1) (hb : b < B) : At8 w1 b x0 x1 x2 x3 x4 x5 x6 x7 :=
  ⟨(hB.cell (p := ⟨b, 0, none⟩) hb).trans h.c0, (hB.cell (p := ⟨b, 1, none⟩) hb).trans h.c1, (hB.cell (p := ⟨b, 2, none⟩) hb).trans h.c2, (hB.cell (p := ⟨b, 3, none⟩) hb).trans h.c3, (hB.cell (p := ⟨b, 4, none⟩) hb).trans h.c4, (hB.cell (p := ⟨b, 5, none⟩) hb).trans h.c5, (hB.cell (p := ⟨b, 6, none⟩) hb).trans h.c6, (hB.cell (p := ⟨b, 7, none⟩) hb).trans h.c7, (hB.frozen (p := ⟨b, 0, none⟩) hb).trans h.f0, (hB.frozen (p := ⟨b, 1, none⟩) hb).trans h.f1, (hB.frozen (p := ⟨b, 2, none⟩) hb).trans h.f2, (hB.frozen (p := ⟨b, 3, none⟩) hb).trans h.f3, (hB.frozen (p := ⟨b, 4, none⟩) hb).trans h.f4, (hB.frozen (p := ⟨b, 5, none⟩) hb).trans h.f5, (hB.frozen (p := ⟨b, 6, none⟩) hb).trans h.f6, (hB.frozen (p := ⟨b, 7, none⟩) hb).trans h.f7⟩
theorem At8.alloc {w : World} {b : Nat} {x0 x1 x2 x3 x4 x5 x6 x7 : Value} (h : At8 w b x0 x1 x2 x3 x4 x5 x6 x7) (hb : b < w.heap.size) (o : Obj) : At8 (w.alloc o) b x0 x1 x2 x3 x4 x5 x6 x7 := h.below (B := w.heap.size) ((Below.refl _ _).alloc (Nat.le_refl _) _) hb
theorem At8.lt {w : World} {b : Nat} {x0 x1 x2 x3 x4 x5 x6 x7 : Value} (h : At8 w b x0 x1 x2 x3 x4 x5 x6 x7) : b < w.heap.size := World.block_lt_of_cell? _ _ h.c0

/-- What Make gives of a fraction. -/
def mkN (x : Rat) : Int := if okR x then x.num else 0
def mkD (x : Rat) : Int := if okR x then (x.den : Int) else 0
def mkE (x : Rat) : Int := if okR x then 0 else 3
theorem mk_fr {n d : Int} (hd : 0 < d) : mk n d = (mkN (fr n d), mkD (fr n d), mkE (fr n d)) := by
  unfold mk mkN mkD mkE
  rw [if_neg (by omega), red_fr hd]
  cases okR (fr n d) <;> rfl
theorem makeF (n d : Int) (w : World) (hd : 0 < d) (n0 : -9223372036854775808 ≤ n) (n1 : n ≤ 9223372036854775807) (d1 : d ≤ 9223372036854775807) :
    Calls Try.prog 61 #[.int .i64 n, .int .i64 d] w fun e w' =>
      e = .returned (.tuple #[.agg #[.int .i64 (mkN (fr n d)), .int .i64 (mkD (fr n d))], .int .i64 (mkE (fr n d))]) ∧ RowKit.Below w.heap.size w w' := by
  have h := make_any n d w n0 n1 (by omega) d1
  rw [mk_fr hd] at h
  exact h

theorem mul_bd {a b : Int} {A B : Nat} (ha : a.natAbs ≤ A) (hb : b.natAbs ≤ B) : (a * b).natAbs ≤ A * B := by
  rw [Int.natAbs_mul]; exact Nat.mul_le_mul ha hb

/-! ### Quotients as the program has them -/
/-- Truncated quotient and rest. -/
def qW (n d : Int) : Int := n.tdiv d
def qR (n d : Int) : Rat := fr (n.tmod d) d
def qN (n d : Int) : Int := (qR n d).num
def qD (n d : Int) : Int := (qR n d).den
theorem qR_eq {n d : Int} (hd : 0 < d) : fr n d = (qW n d : Rat) + qR n d := by
  have e := Int.mul_tdiv_add_tmod n d
  have h := ne0 hd
  have : (n : Rat) = (d : Rat) * ((n.tdiv d : Int) : Rat) + ((n.tmod d : Int) : Rat) := by rw [← Rat.intCast_mul, ← Rat.intCast_add, e]
  unfold qW qR fr
  rw [this]
  grind
theorem tmod_bd (n : Int) {d : Int} (hd : 0 < d) : -d < n.tmod d ∧ n.tmod d < d := by
  have h1 := Int.tmod_lt_of_pos n hd
  have h2 := Int.tmod_lt_of_pos (-n) hd
  rw [Int.neg_tmod] at h2
  omega
theorem fr_parts {n d : Int} (hd : 0 < d) : ∃ g : Int, 0 < g ∧ n = (fr n d).num * g ∧ d = (fr n d).den * g := by
  have hx : n * (fr n d).den = (fr n d).num * d := (fr_eq hd (den_pos _)).1 (by rw [fr_self])
  have hr : Nat.gcd (fr n d).num.natAbs (fr n d).den = 1 := (fr n d).reduced
  have hp := den_pos (fr n d)
  have hdv : (fr n d).den ∣ d.natAbs := by
    have h1 : (fr n d).den ∣ (fr n d).num.natAbs * d.natAbs := ⟨n.natAbs, by
      have := congrArg Int.natAbs hx
      rw [Int.natAbs_mul, Int.natAbs_mul] at this
      rw [← this, Nat.mul_comm]; rfl⟩
    exact (Nat.Coprime.dvd_of_dvd_mul_left (Nat.Coprime.symm hr) h1)
  obtain ⟨k, hk⟩ := hdv
  have hk0 : 0 < k := by
    rcases Nat.eq_zero_or_pos k with h | h
    · rw [h] at hk; omega
    · exact h
  have ed : d = (fr n d).den * (k : Int) := by
    have : ((d.natAbs : Nat) : Int) = (((fr n d).den * k : Nat) : Int) := by rw [hk]
    rw [Int.natCast_mul] at this
    omega
  refine ⟨k, by omega, ?_, ed⟩
  have h2 : n * (fr n d).den = ((fr n d).num * k) * (fr n d).den := by
    have h3 : (fr n d).num * d = (fr n d).num * ((fr n d).den * (k : Int)) := congrArg ((fr n d).num * ·) ed
    rw [hx, h3, Int.mul_assoc, Int.mul_comm (k : Int)]
  exact Int.eq_of_mul_eq_mul_right (by omega) h2
theorem fr_bd {n d : Int} (hd : 0 < d) : (fr n d).num.natAbs ≤ n.natAbs ∧ ((fr n d).den : Int) ≤ d := by
  obtain ⟨g, hg, h1, h2⟩ := fr_parts (n := n) hd
  have hp := den_pos (fr n d)
  generalize (fr n d).num = p at *
  generalize (((fr n d).den : Nat) : Int) = q at *
  constructor
  · rw [h1, Int.natAbs_mul]
    exact Nat.le_mul_of_pos_right _ (by omega)
  · rw [h2]
    have : q * 1 ≤ q * g := Int.mul_le_mul_of_nonneg_left (by omega) (by omega)
    omega
theorem qR_ok (n : Int) {d : Int} (hd : 0 < d) (h : d ≤ 1000000000) : okR (qR n d) = true := by
  have ⟨h1, h2⟩ := fr_bd (n := n.tmod d) hd
  have := tmod_bd n hd
  unfold okR qR
  simp only [Bool.and_eq_true, decide_eq_true_eq]
  omega
theorem qD_pos (n d : Int) : 0 < qD n d := den_pos _
theorem qD_le (n : Int) {d : Int} (hd : 0 < d) : qD n d ≤ d := (fr_bd (n := n.tmod d) hd).2
theorem qN_le (n : Int) {d : Int} (hd : 0 < d) : (qN n d).natAbs ≤ (n.tmod d).natAbs := (fr_bd (n := n.tmod d) hd).1
theorem q_val (n : Int) {d : Int} (hd : 0 < d) (h : d ≤ 1000000000) : Q.Val (qN n d) (qD n d) := okR_val.1 (qR_ok n hd h)
theorem q_fr (n d : Int) : fr (qN n d) (qD n d) = qR n d := fr_self _
theorem qW_bd (n : Int) {d : Int} (hd : 0 < d) : (qW n d * qD n d).natAbs ≤ n.natAbs ∧ (qW n d).natAbs ≤ n.natAbs := by
  have e := Int.mul_tdiv_add_tmod n d
  have h1 : (n.tdiv d).natAbs * d.natAbs ≤ n.natAbs := by
    rw [Int.natAbs_tdiv]
    exact Nat.div_mul_le_self _ _
  have h2 := qD_le n hd
  have h3 := qD_pos n d
  constructor
  · rw [Int.natAbs_mul]
    exact Nat.le_trans (Nat.mul_le_mul_left _ (by omega)) h1
  · exact Nat.le_trans (Nat.le_mul_of_pos_right _ (by omega)) h1
/-- The number that such a quotient is. -/
theorem q_back {n d : Int} (hd : 0 < d) : fr (qW n d * qD n d + qN n d) (qD n d) = fr n d := by
  rw [qR_eq hd, ← q_fr]
  have h := ne0 (qD_pos n d)
  unfold fr
  rw [Rat.intCast_add, Rat.intCast_mul]
  grind
/-- Equal structs are equal quotients. -/
theorem q_eq {n d n' d' : Int} (hd : 0 < d) (hd' : 0 < d') : (qW n d = qW n' d' ∧ qN n d = qN n' d' ∧ qD n d = qD n' d') ↔ fr n d = fr n' d' := by
  constructor
  · rintro ⟨h1, h2, h3⟩
    rw [← q_back hd, ← q_back hd', h1, h2, h3]
  · intro h
    have e : qW n d = qW n' d' := by
      have h1 := (fr_eq hd hd').1 h
      unfold qW
      have h2 : (n * d').tdiv (d * d') = n.tdiv d := Int.mul_tdiv_mul_of_pos_left n d hd'
      have h3 : (n' * d).tdiv (d' * d) = n'.tdiv d' := Int.mul_tdiv_mul_of_pos_left n' d' hd
      rw [← h2, ← h3, h1, Int.mul_comm d d']
    have e2 : qR n d = qR n' d' := by
      have h1 := qR_eq (n := n) hd
      have h2 := qR_eq (n := n') hd'
      rw [e] at h1
      grind
    exact ⟨e, by unfold qN; rw [e2], by unfold qD; rw [e2]⟩
theorem q_lt {n d n' d' : Int} (hd : 0 < d) (hd' : 0 < d') : (qW n d < qW n' d' ∨ (qW n d = qW n' d' ∧ qN n d * qD n' d' < qN n' d' * qD n d)) ↔ fr n d < fr n' d' := by
  have le1 : ∀ {a b c d : Int}, 0 < b → 0 < d → fr a b ≤ fr c d → qW a b ≤ qW c d := by
    intro a b c d hb hd h
    have h1 := (fr_le hb hd).1 h
    have h2 : (a * d).tdiv (b * d) = a.tdiv b := Int.mul_tdiv_mul_of_pos_left a b hd
    have h3 : (c * b).tdiv (d * b) = c.tdiv d := Int.mul_tdiv_mul_of_pos_left c d hb
    unfold qW
    rw [← h2, ← h3, Int.mul_comm d b]
    exact Int.tdiv_le_tdiv (Int.mul_pos hb hd) h1
  have h1 := qR_eq (n := n) hd
  have h2 := qR_eq (n := n') hd'
  have hr : qN n d * qD n' d' < qN n' d' * qD n d ↔ qR n d < qR n' d' := by
    rw [← q_fr n d, ← q_fr n' d', fr_lt (qD_pos _ _) (qD_pos _ _)]
  rw [hr]
  constructor
  · rintro (h | ⟨h, k⟩)
    · rcases lt_or (fr n d) (fr n' d') with h3 | h3
      · exact h3
      · have := le1 hd' hd h3; omega
    · rw [h1, h2, h]; grind
  · intro h
    have := le1 hd hd' (Rat.le_of_lt h)
    by_cases e : qW n d = qW n' d'
    · refine .inr ⟨e, ?_⟩
      rw [h1, h2, e] at h
      grind
    · exact .inl (by omega)
end Go.Proofs.Ytmjdolgcgbiajaa
