/-
  The contract of Lex, which recovers what the reader panics.
  Contract of errorOf, which recovers what a reader panics.
  Mathematics of the parser: what tokens a source has.
  Contract of newReader.
-/
import Derived.Test.YtedbpjcglnkjmaaGreatDoorZL
import Derived.Test.YtedbpjcglnkjmaaGreatDoorZI
import Derived.Test.YtedbpjcglnkjmaaGreatDoorZC
import Derived.RegionTactic
import Derived.BigRegion
namespace Go.Proofs.YtedbpjcglnkjmaaGreatDoor
open Go.RowKit Lx

theorem assert_nil (w : World) : (Instr.typeAssert .nilIface 20 113 true).run Tryz.prog w = .ok (.tuple #[.agg #[.int .i64 0, .int .i64 0], .bool false]) w := by kernel_rfl
theorem assert_fail (E a : Int) (w : World) : (Instr.typeAssert (.iface 113 (.agg #[.int .i64 E, .int .i64 a])) 20 113 true).run Tryz.prog w = .ok (.tuple #[.agg #[.int .i64 E, .int .i64 a], .bool true]) w := by kernel_rfl
theorem wp_act {P : Program} {c : Code} {Q : Exit → Act → World → Prop} {a a' : Act} {w : World} (h : a = a') (k : c.wp P Q a' w) : c.wp P Q a w := h ▸ k
set_option maxRecDepth 10000 in
theorem lcatch_idle (p1 p2 p3 : Value) (w : World) :
    CallsD Tryz.prog 62 #[p1, p2, p3] .returning w fun e u' w' => e = .returned (.tuple #[]) ∧ u' = .returning ∧ RowKit.Below w.heap.size w w' := by
  refine callsD_of_wpS Tryz.func62 rfl fun c₀ cs hu => ?_
  apply wpS_seq
  apply wpS_region
  simp [wpOpsS, go_sem, recoverD, hu, Tryz.ntmps62, Exit.thenS, assert_nil]
  apply wpS_seq
  apply wpS_region
  simp [wpOpsS, go_sem, Exit.thenS]
  refine wpS_cond (t := false) (by simp [Act.eval, Array.replicate]) ?_
  simp only [Bool.false_eq_true, if_false]
  refine wpS_of_wp (wp_skip ?_)
  cases c₀
  simp_all [bodyPostS, results, Tryz.results62]
  exact (Below.refl _ _).alloc (Nat.le_refl _) _
set_option maxRecDepth 100000 in
set_option maxHeartbeats 1000000 in
theorem lcatch (b0 : Nat) (E : Int) (a : Nat) (x0 x1 x2 : Value) (w : World) (h0 : w.cell? ⟨b0, 0, none⟩ = some x0) (h1 : w.cell? ⟨b0 + 1, 0, none⟩ = some x1) (h2 : w.cell? ⟨b0 + 2, 0, none⟩ = some x2)
    (f0 : w.frozen? ⟨b0, 0, none⟩ = false) (f1 : w.frozen? ⟨b0 + 1, 0, none⟩ = false) (f2 : w.frozen? ⟨b0 + 2, 0, none⟩ = false) :
    CallsD Tryz.prog 62 #[.pointer (some ⟨b0, 0, none⟩), .pointer (some ⟨b0 + 1, 0, none⟩), .pointer (some ⟨b0 + 2, 0, none⟩)] (.panicking (failV E a)) w fun e u' w' =>
      e = .returned (.tuple #[]) ∧ u' = .panicking [{ v := .iface 113 (.agg #[.int .i64 E, .int .i64 a]), recovered := true }] ∧
      (w'.cell? ⟨b0, 0, none⟩ = some (.slice none 0 0) ∧ w'.cell? ⟨b0 + 1, 0, none⟩ = some (.int .i64 E) ∧ w'.cell? ⟨b0 + 2, 0, none⟩ = some (.int .i64 a)) ∧ RowKit.Below b0 w w' := by
  have hlt : b0 + 2 < w.heap.size := World.block_lt_of_cell? _ _ h2
  refine callsD_of_wpS Tryz.func62 rfl fun c₀ cs hu => ?_
  unfold failV at hu
  apply wpS_seq
  apply wpS_region
  simp [wpOpsS, go_sem, recoverD, hu, Tryz.ntmps62, Exit.thenS, assert_fail]
  apply wpS_seq
  apply wpS_region
  simp [wpOpsS, go_sem, Exit.thenS]
  refine wpS_cond (t := true) (by simp [Act.eval, Array.replicate]) ?_
  simp only [if_true]
  refine wpS_of_wp ?_
  refine wp_act (a' := { tmps := #[.pointer (some ⟨b0, 0, none⟩), .pointer (some ⟨b0 + 1, 0, none⟩), .pointer (some ⟨b0 + 2, 0, none⟩), .pointer (some ⟨w.heap.size, 0, none⟩), .bool true, .tuple #[.agg #[.int .i64 E, .int .i64 a], .bool true], .iface 113 (.agg #[.int .i64 E, .int .i64 a]), .tuple #[.agg #[.int .i64 E, .int .i64 a], .bool true], .agg #[.int .i64 E, .int .i64 a], .bool true, .bool true, undef, undef, undef, undef], defers := [] }) (by kernel_rfl) ?_
  have hB : RowKit.Below w.heap.size w (w.alloc (.cells #[.int .i64 E, .int .i64 a] 113)) := (Below.refl _ _).alloc (Nat.le_refl _) _
  have e0 : (w.alloc (.cells #[.int .i64 E, .int .i64 a] 113)).cell? ⟨w.heap.size, 0, none⟩ = some (.int .i64 E) := by simp
  have e1 : (w.alloc (.cells #[.int .i64 E, .int .i64 a] 113)).cell? ⟨w.heap.size, 1, none⟩ = some (.int .i64 a) := by simp
  replace h0 := (hB.cell (p := ⟨b0, 0, none⟩) (by show b0 < _; omega)).trans h0
  replace h1 := (hB.cell (p := ⟨b0 + 1, 0, none⟩) (by show b0 + 1 < _; omega)).trans h1
  replace h2 := (hB.cell (p := ⟨b0 + 2, 0, none⟩) (by show b0 + 2 < _; omega)).trans h2
  replace f0 := (hB.frozen (p := ⟨b0, 0, none⟩) (by show b0 < _; omega)).trans f0
  replace f1 := (hB.frozen (p := ⟨b0 + 1, 0, none⟩) (by show b0 + 1 < _; omega)).trans f1
  replace f2 := (hB.frozen (p := ⟨b0 + 2, 0, none⟩) (by show b0 + 2 < _; omega)).trans f2
  have HB := Lib.hid hB
  have n0 : ¬ w.heap.size = b0 := by omega
  have n1 : ¬ w.heap.size = b0 + 1 := by omega
  have n2 : ¬ w.heap.size = b0 + 2 := by omega
  clear hB
  generalize hg : w.heap.size = g at *
  generalize w.alloc (.cells #[.int .i64 E, .int .i64 a] 113) = W at *
  clear hg
  go_region
  have q0 : ∀ (W : World) (b o : Nat) (v x : Value) (c : Addr), W.cell? ⟨b, o, none⟩ = some x → ¬ c = ⟨b, o, none⟩ → (W.setCell c v).cell? ⟨b, o, none⟩ = some x := fun W b o v x c h hn => by
    rw [World.cell?_setCell_other _ _ _ _ (by first | exact hn | exact fun e => hn e.symm)]; exact h
  refine ⟨rfl, _, rfl, .tuple #[], by simp [results, Tryz.results62], rfl, rfl, ⟨?_, ?_, ?_⟩, ?_⟩
  · show ((((W.setCell _ _).setCell _ _).setCell _ _).cell? _) = _
    simp [go_sem, h0]
  · show ((((W.setCell _ _).setCell _ _).setCell _ _).cell? _) = _
    simp [go_sem, h1]
  · show ((((W.setCell _ _).setCell _ _).setCell _ _).cell? _) = _
    simp [go_sem, h2]
  · refine Below.drew ?_
    exact ((((HB.out.mono (by show b0 ≤ g; omega)).setCell (p := ⟨b0, 0, none⟩) (Nat.le_refl b0) _).setCell (p := ⟨b0 + 1, 0, none⟩) (by show b0 ≤ b0 + 1; omega) _).setCell (p := ⟨b0 + 2, 0, none⟩) (by show b0 ≤ b0 + 2; omega) _)

def _root_.Go.Proofs.YtedbpjcglnkjmaaGreatDoor.Lx.Res.tk : Res → List Tok
  | .ok l => l
  | .er _ _ => []
def _root_.Go.Proofs.YtedbpjcglnkjmaaGreatDoor.Lx.Res.e : Res → Int
  | .ok _ => 0
  | .er e _ => e
def _root_.Go.Proofs.YtedbpjcglnkjmaaGreatDoor.Lx.Res.a : Res → Nat
  | .ok _ => 0
  | .er _ a => a
/-- What Lex gives. -/
def Gives (w : World) (R : Res) (e : Ending) (w' : World) : Prop := ∃ q b cap n, e = .returned (.tuple #[.slice q n cap, .int .i64 R.e, .int .i64 (R.a : Nat)]) ∧ SlT w' q b 0 n R.tk ∧ n ≤ cap ∧ RowKit.Below w.heap.size w w'
theorem lex_short {V : Nat → Int × Int × Int} {l : List UInt8} {ts : List Tok} (h : lex V l = .ok ts) : ts.length ≤ 2000 := by
  unfold lex at h
  split at h
  · cases h
  · exact (lx_fuel _ _ _ _ h).1
theorem cell_past (w : World) (o : Obj) (a : Addr) (h : a.block < w.heap.size) : (w.alloc o).cell? a = w.cell? a := ((Below.refl _ w).alloc (Nat.le_refl _) o).cell h
theorem frozen_past (w : World) (o : Obj) (a : Addr) (h : a.block < w.heap.size) : (w.alloc o).frozen? a = w.frozen? a := ((Below.refl _ w).alloc (Nat.le_refl _) o).frozen h
theorem cell_new (w : World) (x : Value) (T : Nat) : (w.alloc (.cells #[x] T)).cell? ⟨w.heap.size, 0, none⟩ = some x := by simp
theorem frozen_new (w : World) (x : Value) (T : Nat) : (w.alloc (.cells #[x] T)).frozen? ⟨w.heap.size, 0, none⟩ = false := by simp
/-- The four blocks that Lex makes. -/
def lexW (w : World) (s : ByteArray) : World := (((w.alloc (.cells #[.slice none 0 0] 70)).alloc (.cells #[.int .i64 0] 37)).alloc (.cells #[.int .i64 0] 3)).alloc (.cells #[.string s, .int .i64 0] 116)
theorem lexW_facts (w : World) (s : ByteArray) : RowKit.Below w.heap.size w (lexW w s) ∧ (lexW w s).cell? ⟨w.heap.size, 0, none⟩ = some (.slice none 0 0) ∧ (lexW w s).cell? ⟨w.heap.size + 1, 0, none⟩ = some (.int .i64 0) ∧ (lexW w s).cell? ⟨w.heap.size + 2, 0, none⟩ = some (.int .i64 0) ∧
    (lexW w s).frozen? ⟨w.heap.size, 0, none⟩ = false ∧ (lexW w s).frozen? ⟨w.heap.size + 1, 0, none⟩ = false ∧ (lexW w s).frozen? ⟨w.heap.size + 2, 0, none⟩ = false ∧ At2 (lexW w s) (w.heap.size + 3) (.string s) (.int .i64 0) ∧ (lexW w s).heap.size = w.heap.size + 4 := by
  unfold lexW
  refine ⟨((((Below.refl _ _).alloc (Nat.le_refl _) _).alloc (by simp) _).alloc (by first | (simp; done) | (simp; omega)) _).alloc (by first | (simp; done) | (simp; omega)) _, ?_, ?_, ?_, ?_, ?_, ?_, ?_, ?_⟩
  · rw [cell_past _ _ _ (by first | (simp; done) | (simp; omega)), cell_past _ _ _ (by first | (simp; done) | (simp; omega)), cell_past _ _ _ (by simp)]; simp
  · rw [cell_past _ _ _ (by first | (simp; done) | (simp; omega)), cell_past _ _ _ (by simp)]
    have := cell_new (w.alloc (.cells #[.slice none 0 0] 70)) (.int .i64 0) 37
    rwa [World.size_alloc] at this
  · rw [cell_past _ _ _ (by simp)]
    have := cell_new ((w.alloc (.cells #[.slice none 0 0] 70)).alloc (.cells #[.int .i64 0] 37)) (.int .i64 0) 3
    rwa [World.size_alloc, World.size_alloc] at this
  · rw [frozen_past _ _ _ (by first | (simp; done) | (simp; omega)), frozen_past _ _ _ (by first | (simp; done) | (simp; omega)), frozen_past _ _ _ (by simp)]; simp
  · rw [frozen_past _ _ _ (by first | (simp; done) | (simp; omega)), frozen_past _ _ _ (by simp)]
    have := frozen_new (w.alloc (.cells #[.slice none 0 0] 70)) (.int .i64 0) 37
    rwa [World.size_alloc] at this
  · rw [frozen_past _ _ _ (by simp)]
    have := frozen_new ((w.alloc (.cells #[.slice none 0 0] 70)).alloc (.cells #[.int .i64 0] 37)) (.int .i64 0) 3
    rwa [World.size_alloc, World.size_alloc] at this
  · have := At2.new (((w.alloc (.cells #[.slice none 0 0] 70)).alloc (.cells #[.int .i64 0] 37)).alloc (.cells #[.int .i64 0] 3)) (.string s) (.int .i64 0) 116
    rwa [World.size_alloc, World.size_alloc, World.size_alloc] at this
  · simp
set_option maxRecDepth 100000 in
set_option maxHeartbeats 2000000 in
theorem lex_any (s : ByteArray) (w : World) (hs : s.size ≤ 281474976710656) : Calls Tryz.prog 39 #[.string s] w fun e w' => Gives w (lex Vh s.data.toList) e w' := by
  have hmf : ∀ (fn : Fn) (first cap : Array Value) (w : World), (Instr.makeFunc fn first cap).run Tryz.prog w = .ok (.func fn first cap) w := fun _ _ _ _ => rfl
  have KT := Lib.hid (fun b w hA => tokens_any s b w hA hs)
  have HL := Lib.hid (fun ts (h : lex Vh s.data.toList = .ok ts) => lex_short h)
  generalize lex Vh s.data.toList = R at *
  go_enter_defers Tryz.func39, Tryz.ntmps39
  go_wp2_with fail
  have hF := lexW_facts w s
  change Calls Tryz.prog 63 #[.pointer (some ⟨w.heap.size + 3, 0, none⟩)] (lexW w s) fun e w' => _
  have HK := Lib.hid (KT.out _ _ hF.2.2.2.2.2.2.2.1)
  generalize lexW w s = W at *
  obtain ⟨fB, fc0, fc1, fc2, ff0, ff1, ff2, fA, fsz⟩ := hF
  have HB := Lib.hid fB
  refine HK.out.mono ?_
  intro e w2 hL
  have hkept : ∀ k o, k < W.heap.size → k ≠ w.heap.size + 3 → Kept (w.heap.size + 3) W w2 → w2.cell? ⟨k, o, none⟩ = W.cell? ⟨k, o, none⟩ ∧ w2.frozen? ⟨k, o, none⟩ = W.frozen? ⟨k, o, none⟩ := fun k o h1 h2 h =>
    ⟨World.cell?_of_block (w := W) (a := ⟨k, o, none⟩) (h.block k h1 h2), World.frozen?_of_block (w := W) (a := ⟨k, o, none⟩) (h.block k h1 h2)⟩
  have HKp := Lib.hid hkept
  clear hkept fA HK KT
  cases R with
  | ok ts =>
    obtain ⟨v, rfl, hO, hK⟩ := hL
    have ho := OwnT.reads hO (by have := HL.out ts rfl; omega)
    have c0 := (HKp.out w.heap.size 0 (by omega) (by omega) hK).1.trans fc0
    have c1 := (HKp.out (w.heap.size + 1) 0 (by omega) (by omega) hK).1.trans fc1
    have c2 : w2.cell? ⟨w.heap.size + 1 + 1, 0, none⟩ = _ := (HKp.out (w.heap.size + 2) 0 (by omega) (by omega) hK).1.trans fc2
    have f0 := (HKp.out w.heap.size 0 (by omega) (by omega) hK).2.trans ff0
    have f1 := (HKp.out (w.heap.size + 1) 0 (by omega) (by omega) hK).2.trans ff1
    have f2 : w2.frozen? ⟨w.heap.size + 1 + 1, 0, none⟩ = _ := (HKp.out (w.heap.size + 2) 0 (by omega) (by omega) hK).2.trans ff2
    have HO := Lib.hid hO
    obtain ⟨q, bb, cap, n, rfl, hsl, hnc, hbb⟩ := ho
    have HQ := Lib.hid hsl
    have HK2 := Lib.hid hK
    have hz2 := hK.size
    clear hO hsl hK fc0 fc1 fc2 ff0 ff1 ff2 fB HKp HL
    go_wp2_with fail
    refine leaves_cons (f := 62) (args := #[.pointer (some ⟨w.heap.size, 0, none⟩), .pointer (some ⟨w.heap.size + 1, 0, none⟩), .pointer (some ⟨w.heap.size + 1 + 1, 0, none⟩)]) (by simp) (by simp [go_sem]) ?_
    refine (lcatch_idle _ _ _ _).mono ?_
    rintro e u' w3 ⟨rfl, rfl, hB⟩
    have d0 : w3.cell? ⟨w.heap.size, 0, none⟩ = some (.slice q n cap) := (hB.cell (p := ⟨w.heap.size, 0, none⟩) (by simp [World.setCell]; omega)).trans (by simp [go_sem, c0])
    have d1 : w3.cell? ⟨w.heap.size + 1, 0, none⟩ = some (.int .i64 0) := (hB.cell (p := ⟨w.heap.size + 1, 0, none⟩) (by simp [World.setCell]; omega)).trans (by simp [go_sem, c1])
    have d2 : w3.cell? ⟨w.heap.size + 1 + 1, 0, none⟩ = some (.int .i64 0) := (hB.cell (p := ⟨w.heap.size + 1 + 1, 0, none⟩) (by simp [World.setCell]; omega)).trans (by simp [go_sem, c2])
    have hB2 := (hB.mono (B' := w.heap.size) (by simp [World.setCell]; omega))
    have hB3 : RowKit.Below w.heap.size w2 w3 := by
      refine Below.trans ?_ hB2
      repeat' (first | exact Below.refl _ _ | refine Below.setCell ?_ (by first | exact Nat.le_refl _ | (simp; done) | (simp; omega)) _)
    simp [Leaves, settle, results, Tryz.results39, go_sem, d0, d1, d2]
    refine ⟨q, bb, cap, n, rfl, HQ.out.of_block (fun hn => ?_) ?_, hnc, (HB.out.trans (HK2.out.below (by omega) (by omega))).trans hB3⟩
    · have h1 := HQ.out.lt hn
      have h2 := hbb hn
      refine (hB.block bb (by simp [World.setCell]; omega)).trans ?_
      rw [Below.heap_setCell _ ⟨w.heap.size + 1 + 1, 0, none⟩ _ _ (by show bb ≠ w.heap.size + 1 + 1; omega), Below.heap_setCell _ ⟨w.heap.size + 1, 0, none⟩ _ _ (by show bb ≠ w.heap.size + 1; omega), Below.heap_setCell _ ⟨w.heap.size, 0, none⟩ _ _ (by show bb ≠ w.heap.size; omega)]
    · exact hB3.size
  | er E a =>
    obtain ⟨rfl, hK⟩ := hL
    have c0 := (HKp.out w.heap.size 0 (by omega) (by omega) hK).1.trans fc0
    have c1 := (HKp.out (w.heap.size + 1) 0 (by omega) (by omega) hK).1.trans fc1
    have c2 : w2.cell? ⟨w.heap.size + 1 + 1, 0, none⟩ = _ := (HKp.out (w.heap.size + 2) 0 (by omega) (by omega) hK).1.trans fc2
    have f0 := (HKp.out w.heap.size 0 (by omega) (by omega) hK).2.trans ff0
    have f1 := (HKp.out (w.heap.size + 1) 0 (by omega) (by omega) hK).2.trans ff1
    have f2 : w2.frozen? ⟨w.heap.size + 1 + 1, 0, none⟩ = _ := (HKp.out (w.heap.size + 2) 0 (by omega) (by omega) hK).2.trans ff2
    have hz2 := hK.size
    have HK2 := Lib.hid hK
    go_wp2_with fail
    refine leaves_cons (f := 62) (args := #[.pointer (some ⟨w.heap.size, 0, none⟩), .pointer (some ⟨w.heap.size + 1, 0, none⟩), .pointer (some ⟨w.heap.size + 2, 0, none⟩)]) (by simp) (by simp [go_sem]) ?_
    refine (lcatch w.heap.size E a _ _ _ _ c0 c1 c2 f0 f1 f2).mono ?_
    rintro e u' w3 ⟨rfl, rfl, ⟨d0, d1, d2⟩, hB⟩
    simp [Leaves, settle, results, Tryz.results39, go_sem, d0, d1, d2]
    exact ⟨none, 0, 0, 0, rfl, SlT.nil _ _, Nat.le_refl _, (HB.out.trans (HK2.out.below (by omega) (by omega))).trans hB⟩
end Go.Proofs.YtedbpjcglnkjmaaGreatDoor
namespace Go.Proofs.YtedbpjcglnkjmaaGreatDoor
open Go.RowKit Lx Pa

theorem passert_nil (w : World) : (Instr.typeAssert .nilIface 20 89 true).run Tryz.prog w = .ok (.tuple #[.agg #[.int .i64 0, .int .i64 0], .bool false]) w := by kernel_rfl
theorem passert_fail (a E : Int) (w : World) : (Instr.typeAssert (.iface 89 (.agg #[.int .i64 a, .int .i64 E])) 20 89 true).run Tryz.prog w = .ok (.tuple #[.agg #[.int .i64 a, .int .i64 E], .bool true]) w := by kernel_rfl
set_option maxRecDepth 10000 in
theorem pcatch_idle (p1 : Value) (w : World) :
    CallsD Tryz.prog 40 #[p1] .returning w fun e u' w' => e = .returned (.tuple #[]) ∧ u' = .returning ∧ RowKit.Below w.heap.size w w' := by
  refine callsD_of_wpS Tryz.func40 rfl fun c₀ cs hu => ?_
  apply wpS_seq
  apply wpS_region
  simp [wpOpsS, go_sem, recoverD, hu, Tryz.ntmps40, Exit.thenS, passert_nil]
  apply wpS_seq
  apply wpS_region
  simp [wpOpsS, go_sem, Exit.thenS]
  refine wpS_cond (t := false) (by simp [Act.eval, Array.replicate]) ?_
  simp only [Bool.false_eq_true, if_false]
  refine wpS_of_wp (wp_skip ?_)
  cases c₀
  simp_all [bodyPostS, results, Tryz.results40]
  exact (Below.refl _ _).alloc (Nat.le_refl _) _
set_option maxRecDepth 100000 in
set_option maxHeartbeats 1000000 in
theorem pcatch (b0 : Nat) (a E : Int) (x0 x1 : Value) (w : World) (h : At2 w b0 x0 x1) :
    CallsD Tryz.prog 40 #[.pointer (some ⟨b0, 0, none⟩)] (.panicking (failP E a)) w fun e u' w' =>
      e = .returned (.tuple #[]) ∧ u' = .panicking [{ v := .iface 89 (.agg #[.int .i64 a, .int .i64 E]), recovered := true }] ∧
      At2 w' b0 (.int .i64 a) (.int .i64 E) ∧ Kept b0 w w' := by
  have hlt : b0 < w.heap.size := h.lt
  refine callsD_of_wpS Tryz.func40 rfl fun c₀ cs hu => ?_
  unfold failP at hu
  apply wpS_seq
  apply wpS_region
  simp [wpOpsS, go_sem, recoverD, hu, Tryz.ntmps40, Exit.thenS, passert_fail]
  apply wpS_seq
  apply wpS_region
  simp [wpOpsS, go_sem, Exit.thenS]
  refine wpS_cond (t := true) (by simp [Act.eval, Array.replicate]) ?_
  simp only [if_true]
  refine wpS_of_wp ?_
  refine wp_act (a' := { tmps := #[.pointer (some ⟨b0, 0, none⟩), .pointer (some ⟨w.heap.size, 0, none⟩), .bool true, .tuple #[.agg #[.int .i64 a, .int .i64 E], .bool true], .iface 89 (.agg #[.int .i64 a, .int .i64 E]), .tuple #[.agg #[.int .i64 a, .int .i64 E], .bool true], .agg #[.int .i64 a, .int .i64 E], .bool true, .bool true, undef], defers := [] }) (by kernel_rfl) ?_
  have hB : RowKit.Below w.heap.size w (w.alloc (.cells #[.int .i64 a, .int .i64 E] 89)) := (Below.refl _ _).alloc (Nat.le_refl _) _
  have e0 : (w.alloc (.cells #[.int .i64 a, .int .i64 E] 89)).cell? ⟨w.heap.size, 0, none⟩ = some (.int .i64 a) := by simp
  have e1 : (w.alloc (.cells #[.int .i64 a, .int .i64 E] 89)).cell? ⟨w.heap.size, 1, none⟩ = some (.int .i64 E) := by simp
  have H := Lib.hid (h.bel hB)
  obtain ⟨h0, h1, f0, f1⟩ := H.out
  have HB := Lib.hid hB
  have n0 : ¬ w.heap.size = b0 := by omega
  clear hB h
  generalize hg : w.heap.size = g at *
  generalize w.alloc (.cells #[.int .i64 a, .int .i64 E] 89) = W at *
  go_wp2_with fail
  refine ⟨rfl, _, rfl, .tuple #[], by simp [results, Tryz.results40], rfl, rfl, ?_, ?_⟩
  · exact ⟨by simp [go_sem, h0], by simp [go_sem, h1], by simp [World.frozen?_setCell, f0], by simp [World.frozen?_setCell, f1]⟩
  · exact ((Kept.of (by rw [hg]; exact HB.out)).setCell 0 none _).setCell 1 none _
theorem setCell_self {w : World} {b o : Nat} {v : Value} (h : w.cell? ⟨b, o, none⟩ = some v) : (w.setCell ⟨b, o, none⟩ v).heap[b]? = w.heap[b]? := by
  unfold World.cell? at h
  simp only [World.setCell, Array.getElem?_modify, if_true]
  simp only at h
  cases hb : w.heap[b]? with
  | none => rfl
  | some x =>
    rw [hb] at h
    cases x with
    | cells c e f =>
      replace h : c[o]? = some v := by simpa using h
      rw [Option.map_some]
      congr 1
      show Obj.cells (if (none : Option Nat).isSome then c else c.setIfInBounds o v) e f = _
      rw [if_neg (by simp)]
      congr 1
      obtain ⟨ho, hv⟩ := Array.getElem?_eq_some_iff.1 h
      subst hv
      apply Array.ext_getElem?
      intro i
      rw [Array.getElem?_setIfInBounds]
      split
      · rename_i e; subst e; exact h.symm
      · rfl
    | _ => simp at h
theorem At2.same {w : World} {b : Nat} {x y : Value} (h : At2 w b x y) : RowKit.Below w.heap.size w ((w.setCell ⟨b, 0, none⟩ x).setCell ⟨b, 1, none⟩ y) := by
  refine ⟨rfl, rfl, rfl, by simp [World.setCell], fun k hk => ?_⟩
  by_cases e : k = b
  · subst e
    refine (setCell_self ?_).trans (setCell_self h.c0)
    rw [World.cell?_setCell_other _ _ _ _ (by intro e; injection e with _ e2 _; cases e2)]
    exact h.c1
  · exact (Below.heap_setCell _ _ _ _ e).trans (Below.heap_setCell _ _ _ _ e)
set_option maxRecDepth 100000 in
set_option maxHeartbeats 2000000 in
theorem errorOf_okB (F : FuncId) (caps : Array Value) (hE : ∀ (args : Array Value) (w : World), (callFunc F args).run Tryz.prog w = .ok (.enter F args) w) (Q : World → Prop) (w : World)
    (HR : Calls Tryz.prog F caps (w.alloc (.cells #[.int .i64 0, .int .i64 0] 49)) fun e w' => e = .returned (.tuple #[]) ∧ At2 w' w.heap.size (.int .i64 0) (.int .i64 0) ∧ Q w') :
    Calls Tryz.prog 23 #[.func (.func F) #[] caps] w fun e w' => e = .returned (.agg #[.int .i64 0, .int .i64 0]) ∧ ∃ w2, Q w2 ∧ RowKit.Below w2.heap.size w2 w' := by
  have hmf : ∀ (fn : Fn) (first cap : Array Value) (w : World), (Instr.makeFunc fn first cap).run Tryz.prog w = .ok (.func fn first cap) w := fun _ _ _ _ => rfl
  have KR := Lib.hid HR
  clear HR
  go_enter_defers Tryz.func23, Tryz.ntmps23
  go_wp2_with fail
  refine KR.out.mono ?_
  rintro _ w2 ⟨rfl, hA, hQ⟩
  have HQ := Lib.hid hQ
  have HA := Lib.hid hA
  obtain ⟨c0, c1, f0, f1⟩ := hA
  clear hQ KR
  go_wp2_with fail
  refine leaves_cons (f := 40) (args := #[.pointer (some ⟨w.heap.size, 0, none⟩)]) (by simp) (by simp [go_sem]) ?_
  refine (pcatch_idle _ _).mono ?_
  rintro e u' w3 ⟨rfl, rfl, hB⟩
  obtain ⟨d0, d1, -, -⟩ := (HA.out.put (.int .i64 0) (.int .i64 0)).bel hB
  simp [Leaves, settle, results, Tryz.results23, go_sem, d0, d1]
  exact ⟨w2, HQ.out, HA.out.same.trans (hB.mono HA.out.same.size)⟩
theorem errorOf_ok (F : FuncId) (caps : Array Value) (hE : ∀ (args : Array Value) (w : World), (callFunc F args).run Tryz.prog w = .ok (.enter F args) w) (Q : World → Prop) (w : World)
    (HR : Calls Tryz.prog F caps (w.alloc (.cells #[.int .i64 0, .int .i64 0] 49)) fun e w' => e = .returned (.tuple #[]) ∧ At2 w' w.heap.size (.int .i64 0) (.int .i64 0) ∧ Q w') :
    Calls Tryz.prog 23 #[.func (.func F) #[] caps] w fun e w' => e = .returned (.agg #[.int .i64 0, .int .i64 0]) ∧ ∃ w2, Q w2 ∧ Kept w.heap.size w2 w' :=
  (errorOf_okB F caps hE Q w HR).mono fun _ _ h => ⟨h.1, h.2.imp fun _ h => ⟨h.1, Kept.of h.2⟩⟩
set_option maxRecDepth 100000 in
set_option maxHeartbeats 2000000 in
theorem errorOf_er (F : FuncId) (caps : Array Value) (hE : ∀ (args : Array Value) (w : World), (callFunc F args).run Tryz.prog w = .ok (.enter F args) w) (E a : Int) (Q : World → Prop) (w : World)
    (HR : Calls Tryz.prog F caps (w.alloc (.cells #[.int .i64 0, .int .i64 0] 49)) fun e w' => e = .panicked (failP E a) ∧ At2 w' w.heap.size (.int .i64 0) (.int .i64 0) ∧ Q w') :
    Calls Tryz.prog 23 #[.func (.func F) #[] caps] w fun e w' => e = .returned (.agg #[.int .i64 a, .int .i64 E]) ∧ ∃ w2, Q w2 ∧ Kept w.heap.size w2 w' := by
  have hmf : ∀ (fn : Fn) (first cap : Array Value) (w : World), (Instr.makeFunc fn first cap).run Tryz.prog w = .ok (.func fn first cap) w := fun _ _ _ _ => rfl
  have KR := Lib.hid HR
  clear HR
  go_enter_defers Tryz.func23, Tryz.ntmps23
  go_wp2_with fail
  refine KR.out.mono ?_
  rintro _ w2 ⟨rfl, hA, hQ⟩
  have HQ := Lib.hid hQ
  have HA := Lib.hid hA
  clear hQ hA KR
  go_wp2_with fail
  refine leaves_cons (f := 40) (args := #[.pointer (some ⟨w.heap.size, 0, none⟩)]) (by simp) (by simp [go_sem]) ?_
  refine (pcatch w.heap.size a E _ _ _ HA.out).mono ?_
  rintro e u' w3 ⟨rfl, rfl, ⟨d0, d1, -, -⟩, hB⟩
  simp [Leaves, settle, results, Tryz.results23, go_sem, d0, d1]
  exact ⟨w2, HQ.out, hB⟩
end Go.Proofs.YtedbpjcglnkjmaaGreatDoor
namespace Go.Proofs.YtedbpjcglnkjmaaGreatDoor
open Go.RowKit Lx Pa

theorem nx_e1 {l : List UInt8} {E : Int} (h : nx Vh l = .er E) (hl : l ≠ []) : E ≠ 0 := by
  cases l with
  | nil => exact absurd rfl hl
  | cons c l =>
    simp only [nx] at h
    repeat' (split at h)
    all_goals first | (cases h; done) | (injection h with h; rw [← h]; decide)
theorem lx_e0 : ∀ (f i : Nat) (l : List UInt8) (E : Int) (a : Nat), lx Vh f i l = .er E a → E ≠ 0
  | 0, i, l, E, a, h => by
    simp only [lx] at h
    split at h
    · cases h
    · injection h with h1 h2; rw [← h1]; decide
  | f + 1, i, l, E, a, h => by
    have hle := gp_le l false
    simp only [lx] at h
    split at h
    · cases h
    · rename_i hne
      cases hn : nx Vh (l.drop (gp false l)) with
      | er e =>
        rw [hn] at h
        injection h with h1 h2
        rw [← h1]
        refine nx_e1 hn (fun e => ?_)
        have := congrArg List.length e
        rw [List.length_drop, List.length_nil] at this
        omega
      | ok t n =>
        rw [hn] at h
        simp only [] at h
        cases hr : lx Vh f (i + gp false l + n) (l.drop (gp false l + n)) with
        | ok us => rw [hr] at h; cases h
        | er e' a' =>
          rw [hr] at h
          simp only [Res.app, Res.er.injEq] at h
          rw [← h.1]
          exact lx_e0 f _ _ _ _ hr
theorem lex_er {l : List UInt8} {E : Int} {a : Nat} (h : lex Vh l = .er E a) : E ≠ 0 ∧ a < l.length ∧ ∃ ts, lex Vh (l.take a) = .ok ts := by
  unfold lex at h
  split at h
  · rename_i h8
    injection h with h1 h2
    subst h1 h2
    exact ⟨by decide, by omega, [], rfl⟩
  · rename_i h8
    obtain ⟨b1, b2, ts, b3⟩ := lx_part _ _ _ _ _ h
    refine ⟨lx_e0 _ _ _ _ _ h, by omega, ts, ?_⟩
    unfold lex
    rw [if_neg (by rw [List.length_take]; omega)]
    simpa using b3
theorem nx_fine {l : List UInt8} {t : Tok} {n : Nat} (h : nx Vh l = .ok t n) : (t.k = 1 ∨ t.k = 2 ∨ t.k = 3) ∧ (t.k = 2 → t.t = []) ∧ (t.k = 1 → t.t ≠ sSc ∧ t.t ≠ sLp) ∧ -9223372036854775808 ≤ t.n ∧ t.n ≤ 9223372036854775807 ∧ -9223372036854775808 ≤ t.d ∧ t.d ≤ 9223372036854775807 := by
  cases l with
  | nil => cases h
  | cons c l =>
    simp only [nx] at h
    have hw : ∀ x : UInt8, (c :: l).takeWhile wrd = [x] → c = x := fun x hx => by
      rw [List.takeWhile_cons] at hx
      split at hx
      · injection hx
      · cases hx
    split at h
    · rename_i hl
      split at h
      · cases h
      · injection h with h1 h2
        subst h1
        refine ⟨.inl rfl, (fun e => by cases e), fun _ => ⟨fun e => ?_, fun e => ?_⟩, (by show (-9223372036854775808 : Int) ≤ 0; decide), (by show (0 : Int) ≤ 9223372036854775807; decide), (by show (-9223372036854775808 : Int) ≤ 0; decide), (by show (0 : Int) ≤ 9223372036854775807; decide)⟩
        · have := hw 59 e
          subst this
          exact absurd hl (by decide)
        · have := hw 40 e
          subst this
          exact absurd hl (by decide)
    · split at h
      · split at h
        · split at h
          · rename_i hv
            injection h with h1 h2
            subst h1
            obtain ⟨p, q, hm⟩ : ∃ p q, Vh (hun ((c :: l).takeWhile nmb)) = (p, q, 0) := ⟨_, _, by rw [← hv]⟩
            have hq : Q.Val p q := mk_val (n := (hun ((c :: l).takeWhile nmb) : Int)) (d := 100) (by decide) (by unfold Vh at hm; exact hm)
            obtain ⟨q1, q2, q3, q4, -⟩ := hq
            refine ⟨.inr (.inl rfl), fun _ => rfl, (fun e => by cases e), ?_⟩
            simp only [hm]
            omega
          · cases h
        · cases h
      · split at h
        · cases h
        · injection h with h1 h2
          subst h1
          exact ⟨.inr (.inr rfl), (fun e => by cases e), (fun e => by cases e), (by show (-9223372036854775808 : Int) ≤ 0; decide), (by show (0 : Int) ≤ 9223372036854775807; decide), (by show (-9223372036854775808 : Int) ≤ 0; decide), (by show (0 : Int) ≤ 9223372036854775807; decide)⟩
theorem lx_fine : ∀ (f i : Nat) (l : List UInt8) (ts : List Tok), lx Vh f i l = .ok ts → TokOk ts
  | 0, i, l, ts, h => by
    simp only [lx] at h
    split at h
    · injection h with h; subst h; intro t ht; cases ht
    · cases h
  | f + 1, i, l, ts, h => by
    simp only [lx] at h
    split at h
    · injection h with h; subst h; intro t ht; cases ht
    · cases hn : nx Vh (l.drop (gp false l)) with
      | er e => rw [hn] at h; cases h
      | ok t n =>
        rw [hn] at h
        simp only [] at h
        cases hr : lx Vh f (i + gp false l + n) (l.drop (gp false l + n)) with
        | er e' a' => rw [hr] at h; cases h
        | ok us =>
          rw [hr] at h
          simp only [Res.app, Res.ok.injEq] at h
          subst h
          intro x hx
          rw [List.singleton_append, List.mem_cons] at hx
          rcases hx with rfl | hx
          · have h1 := nx_fine hn
            exact h1
          · exact lx_fine f _ _ _ hr x hx
theorem lex_fine {l : List UInt8} {ts : List Tok} (h : lex Vh l = .ok ts) : TokOk ts := by
  unfold lex at h
  split at h
  · cases h
  · exact lx_fine _ _ _ _ h
end Go.Proofs.YtedbpjcglnkjmaaGreatDoor
namespace Go.Proofs.YtedbpjcglnkjmaaGreatDoor
open Go.RowKit Lx Pa

set_option maxRecDepth 100000 in
set_option maxHeartbeats 2000000 in
theorem reader_er (s : ByteArray) (hs : s.size ≤ 281474976710656) (E : Int) (a : Nat) (h : lex Vh s.data.toList = .er E a) (w : World) : Calls Tryz.prog 25 #[.string s] w fun e w' => e = .panicked (failP E a) ∧ RowKit.Below w.heap.size w w' := by
  have KL := Lib.hid (fun w => lex_any s w hs)
  have hE := (lex_er h).1
  have e1 : (E == 0) = false := by simpa using hE
  rw [h] at KL
  clear h
  go_enter Tryz.func25, Tryz.ntmps25
  go_wp2_with fail
  refine (KL.out _).mono ?_
  rintro _ v ⟨q, bq, cap, n, rfl, -, -, hb⟩
  have HB := Lib.hid hb
  clear hb KL
  simp only [Lx.Res.e, Lx.Res.a]
  go_wp2_with fail
  refine (fail_p _ _ _).mono ?_
  rintro _ _ ⟨rfl, rfl⟩
  go_wp2_with fail
  exact bodyPost_panic rfl ⟨rfl, HB.out⟩
set_option maxRecDepth 100000 in
set_option maxHeartbeats 2000000 in
theorem reader_ok (s : ByteArray) (hs : s.size ≤ 281474976710656) (ts : List Tok) (h : lex Vh s.data.toList = .ok ts) (w : World) : Calls Tryz.prog 25 #[.string s] w fun e w' => ∃ b p cap qb mb, e = .returned (.pointer (some ⟨b, 0, none⟩)) ∧ Rd w' b p cap qb ts s.size mb 0 ∧ w.heap.size ≤ b ∧ RowKit.Below w.heap.size w w' := by
  have KL := Lib.hid (fun w => lex_any s w hs)
  have KO := Lib.hid operators_any
  have HT := Lib.hid (lex_fine h)
  rw [h] at KL
  clear h
  go_enter Tryz.func25, Tryz.ntmps25
  go_wp2_with fail
  refine (KL.out _).mono ?_
  rintro _ v ⟨q, bq, cap, n, rfl, hsl, -, hb⟩
  have HB := Lib.hid hb
  have HS := Lib.hid hsl
  have hn := hsl.ln
  clear hb hsl KL
  simp only [Lx.Res.e, Lx.Res.a, Lx.Res.tk] at HS hn ⊢
  subst hn
  go_wp2_with fail
  refine (KO.out _).mono ?_
  rintro _ v2 ⟨mb, rfl, hm, hmb, hb⟩
  have HB2 := Lib.hid (HB.out.trans (hb.mono HB.out.size))
  have HS2 := Lib.hid (HS.out.bel hb)
  have HM := Lib.hid hm
  have hml : mb < v2.heap.size := by
    rcases Nat.lt_or_ge mb v2.heap.size with z | z
    · exact z
    · rw [Array.getElem?_eq_none z] at hm; cases hm
  have hwv := HB2.out.size
  clear hb hm HB HS KO
  go_wp2_with fail
  go_ret
  have bl := (Below.refl v2.heap.size v2).alloc (Nat.le_refl _) (.cells #[.slice q ts.length cap, .int .i64 0, .int .i64 (s.size : Nat), .map (some mb)] 95)
  have hB4 := B4.new v2 (.slice q ts.length cap) (.int .i64 0) (.int .i64 (s.size : Nat)) (.map (some mb)) 95
  exact ⟨v2.heap.size, q, cap, bq, mb, rfl, ⟨hB4.c0, hB4.c1, hB4.c2, hB4.c3, hB4.f1, HS2.out.bel bl, fun z => by have := HS2.out.lt z; omega, heap_past _ HM.out, by omega, Nat.zero_le _, HT.out⟩, hwv, HB2.out.trans (bl.mono hwv)⟩
end Go.Proofs.YtedbpjcglnkjmaaGreatDoor
