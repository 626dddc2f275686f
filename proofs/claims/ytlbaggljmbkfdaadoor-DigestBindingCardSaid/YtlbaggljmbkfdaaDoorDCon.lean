/-
  Contracts in the form that the walks of the laws use: values in letters.
-/
import Derived.Test.YtlbaggljmbkfdaaDoorDSame
namespace Go.Proofs.YtlbaggljmbkfdaaDoor
open Go.RowKit Dg

theorem SlF.lit {α : Type} (w : World) (f : α → Value) (l : List α) (T : TypeId) {fr : Nat × Nat} (hl : l.length ≤ 1000000 := by simp) : SlF f (w.alloc (.cells ((l : List _).map f).toArray T fr)) (some ⟨w.heap.size, 0, none⟩) w.heap.size 0 l.length l := by
  refine ⟨rfl, fun _ => rfl, fun k hk => ?_, fun _ => by simp, by omega⟩
  have h : (w.alloc (.cells (l.map f).toArray T fr)).heap[w.heap.size]? = some (.cells (l.map f).toArray T fr) := by
    show (w.heap.push _)[w.heap.size]? = _
    simp
  unfold World.cell?
  simp only [Nat.zero_add, h]
  simp [hk]
theorem modify_last {α : Type} (l : List α) (x : α) (f : α → α) : (l ++ [x]).modify l.length f = l ++ [f x] := by
  induction l with
  | nil => rfl
  | cons a l ih => simp [List.modify_succ_cons, ih]
theorem modify_push {α : Type} (a : Array α) (x : α) (f : α → α) : (a.push x).modify a.size f = a.push (f x) := by
  rw [← Array.toList_inj, Array.toList_modify, Array.toList_push, Array.toList_push, ← Array.length_toList]
  exact modify_last _ _ _
/-- A literal that is converted: its block is marked. -/
theorem conv_lit (W : World) (vs : Array Value) (n c : Nat) : (convert 22 22 (.slice (some ⟨W.heap.size, 0, none⟩) n c)).run Tryd.prog (W.alloc (.cells vs 5)) = .ok (.slice (some ⟨W.heap.size, 0, none⟩) n c) (W.alloc (.cells vs 5 (vs.size, vs.size + 1))) := by
  have hsh : (W.alloc (.cells vs 5)).shape? W.heap.size = some (5, vs.size) := by
    have : (W.alloc (.cells vs 5)).heap[W.heap.size]? = some (.cells vs 5) := by
      show (W.heap.push (.cells vs 5))[W.heap.size]? = _
      simp
    unfold World.shape?
    rw [this]
  have hfr : (W.alloc (.cells vs 5)).freeze ⟨W.heap.size, vs.size, none⟩ 1 = W.alloc (.cells vs 5 (vs.size, vs.size + 1)) := by
    unfold World.freeze
    rw [if_neg (by decide)]
    show ({ W.alloc (.cells vs 5) with heap := (W.heap.push (.cells vs 5)).modify W.heap.size _ } : World) = _
    rw [modify_push]
    rfl
  simp [convert, run_underlying Tryd.underlying22, run_underlying Tryd.underlying5, markStringish, hsh, hfr]
/-- A slice that came out, its length a letter. -/
def OutN {α : Type} (f : α → Value) (n : Nat) (L : List α) (w : World) (e : Ending) (w' : World) : Prop := ∃ q b cap, e = .returned (.slice q n cap) ∧ SlF f w' q b 0 n L ∧ n ≤ cap ∧ RowKit.Below w.heap.size w w'
def OutPN (n : Nat) (L : List Nat) (E : Int) (w : World) (e : Ending) (w' : World) : Prop := ∃ q b cap, e = .returned (.tuple #[.slice q n cap, .int .i64 E]) ∧ SlF u64v w' q b 0 n L ∧ n ≤ cap ∧ RowKit.Below w.heap.size w w'
theorem bytesK {c : Nat} {l L : List Nat} {n : Nat} (hL : c :: blk l = L) (hn : L.length = n) {p : Option Addr} {b off cap len : Nat} {w : World} (hS : SlF u64v w p b off len l) (hl : len ≤ 1000) :
    Calls Tryd.prog 23 #[.int .u8 c, .slice p len cap] w fun e w' => OutN u8v n L w e w' := by
  subst hL hn
  refine (bytes_any c l p b off cap len w hS hl).mono ?_
  rintro e w' ⟨v, rfl, ⟨q, b, cap, rfl, hs, hc⟩, hB⟩
  exact ⟨q, b, cap, rfl, hs, hc, hB⟩
theorem sumK {l : List Nat} {D : Nat} (hD : dig l = D) (hB : Bytes l) {p : Option Addr} {b off cap len : Nat} {w : World} (hS : SlF u8v w p b off len l) :
    Calls Tryd.prog 11 #[.slice p len cap] w fun e w' => e = .returned (.int .u64 (D : Nat)) ∧ RowKit.Below w.heap.size w w' := by
  subst hD
  refine (sum_any l p b off cap len w hS hB).mono ?_
  rintro e w' ⟨rfl, rfl⟩
  exact ⟨rfl, Below.refl _ _⟩
theorem intsK {l : List Int} {D : Nat} (hD : dig (txs l) = D) (hI : I64s l) {p : Option Addr} {b off cap len : Nat} {w : World} (hS : SlF i64v w p b off len l) (hT : Tab w) :
    Calls Tryd.prog 13 #[.slice p len cap] w fun e w' => e = .returned (.int .u64 (D : Nat)) ∧ RowKit.Below w.heap.size w w' := by
  subst hD
  exact ints_any l p b off cap len w hS hI hT
theorem rootK {l : List Nat} {D : Nat} {E : Int} (hD : rtR l = D) (hE : cE l.length = E) {p : Option Addr} {b off cap len : Nat} {w : World} (hS : SlF u64v w p b off len l) :
    Calls Tryd.prog 15 #[.slice p len cap] w fun e w' => e = .returned (.tuple #[.int .u64 (D : Nat), .int .i64 E]) ∧ RowKit.Below w.heap.size w w' := by
  subst hD hE
  rw [hS.ln]
  exact root_any l p b off cap len w hS
theorem pathK {l P : List Nat} {n : Nat} {i E : Int} (hP : ptR l i = P) (hE : peE i l.length = E) (hn : P.length = n) {p : Option Addr} {b off cap len : Nat} {w : World} (hS : SlF u64v w p b off len l) :
    Calls Tryd.prog 17 #[.slice p len cap, .int .i64 i] w fun e w' => OutPN n P E w e w' := by
  subst hP hE hn
  refine (path_any l p b off cap len i w hS).mono ?_
  rintro e w' ⟨v, rfl, ⟨q, b, cap, rfl, hs, hc⟩, hB⟩
  exact ⟨q, b, cap, rfl, hs, hc, hB⟩
theorem checkK {r a : Nat} {i n : Int} {P : List Nat} {R : Bool} (hR : ck r a i n P = R) {p : Option Addr} {b off cap len : Nat} {w : World} (hS : SlF u64v w p b off len P) (hc : len ≤ cap) :
    Calls Tryd.prog 20 #[.int .u64 r, .int .u64 a, .int .i64 i, .int .i64 n, .slice p len cap] w fun e w' => e = .returned (.bool R) ∧ RowKit.Below w.heap.size w w' := by
  subst hR
  exact check_any r a i n P p b off cap len w hS hc
theorem sameK {l m : List Nat} {R : Bool} (hR : decide (l = m) = R) {p p2 : Option Addr} {b off cap len b2 off2 cap2 len2 : Nat} {w : World} (hS : SlF u64v w p b off len l) (hS2 : SlF u64v w p2 b2 off2 len2 m) :
    Calls Tryd.prog 19 #[.slice p len cap, .slice p2 len2 cap2] w fun e w' => e = .returned (.bool R) ∧ RowKit.Below w.heap.size w w' := by
  subst hR
  exact same_any l m p b off cap len p2 b2 off2 cap2 len2 w hS hS2

/-! ### Digests that are reckoned -/
def dgC (h : Nat) : List Nat → Nat
  | [] => h
  | c :: l => dgC ((h ^^^ c) * 1099511628211 % 18446744073709551616) l
theorem dgF_C : ∀ (l : List Nat) (h : Nat), dgF h l = dgC h l
  | [], _ => rfl
  | c :: l, h => by rw [dgF, dgC, stp_def, dgF_C]
theorem dig_C (l : List Nat) : dig l = dgC 14695981039346656037 l := by rw [dig_def, dgF_C]
theorem dig_0 : dig [] = 14695981039346656037 := by rw [dig_C]; decide
theorem dig_a : dig [97] = 12638187200555641996 := by rw [dig_C]; decide
theorem dig_foobar : dig [102, 111, 111, 98, 97, 114] = 9625390261332436968 := by rw [dig_C]; decide
theorem txs_head : txs [12, -3] = [49, 50, 32, 45, 51, 32] := by
  have h1 : Lib.itoa 12 = [49, 50] := by rw [show (12 : Int) = ((12 : Nat) : Int) by rfl, itoa_nat, dec_big (by decide), dec_small (by decide)]; rfl
  have h2 : Lib.itoa (-3) = [45, 51] := by rw [show (-3 : Int) = -((3 : Nat) : Int) by rfl, itoa_neg (by decide), dec_small (by decide)]; rfl
  simp [txs, txn, nb, h1, h2]
theorem rt_567 : rt [5, 6, 7] = prN (prN (lfN 5) (lfN 6)) (lfN 7) := by
  rw [rt_join (l := [5, 6, 7]) (k := 1) (by decide) (by decide)]
  show prN (rt [5, 6]) (rt [7]) = _
  rw [rt_join (l := [5, 6]) (k := 0) (by decide) (by decide)]
  show prN (prN (rt [5]) (rt [6])) (rt [7]) = _
  rw [rt_one, rt_one, rt_one]
theorem pt_567 : pt [5, 6, 7] 2 = [prN (lfN 5) (lfN 6)] := by
  unfold pt
  rw [ptV_long (by simp [lv])]
  rw [ptV_long (by simp [lv, upL]), ptV_short (by simp [lv, upL])]
  simp [bes, lv, upL]
end Go.Proofs.YtlbaggljmbkfdaaDoor
