/-
  The contract of Lex, which recovers what the reader panics.
-/
import Derived.Test.YtoaeceeookknnaaDoorLTokens
import Derived.RegionTactic
import Derived.BigRegion
namespace Go.Proofs.YtoaeceeookknnaaDoor
open Go.RowKit Lx

theorem assert_nil (w : World) : (Instr.typeAssert .nilIface 20 46 true).run Tryd.prog w = .ok (.tuple #[.agg #[.int .i64 0, .int .i64 0], .bool false]) w := by kernel_rfl
theorem assert_fail (E a : Int) (w : World) : (Instr.typeAssert (.iface 46 (.agg #[.int .i64 E, .int .i64 a])) 20 46 true).run Tryd.prog w = .ok (.tuple #[.agg #[.int .i64 E, .int .i64 a], .bool true]) w := by kernel_rfl
theorem wp_act {P : Program} {c : Code} {Q : Exit → Act → World → Prop} {a a' : Act} {w : World} (h : a = a') (k : c.wp P Q a' w) : c.wp P Q a w := h ▸ k
set_option maxRecDepth 10000 in
theorem lcatch_idle (p1 p2 p3 : Value) (w : World) :
    CallsD Tryd.prog 20 #[p1, p2, p3] .returning w fun e u' w' => e = .returned (.tuple #[]) ∧ u' = .returning ∧ RowKit.Below w.heap.size w w' := by
  refine callsD_of_wpS Tryd.func20 rfl fun c₀ cs hu => ?_
  apply wpS_seq
  apply wpS_region
  simp [wpOpsS, go_sem, recoverD, hu, Tryd.ntmps20, Exit.thenS, assert_nil]
  apply wpS_seq
  apply wpS_region
  simp [wpOpsS, go_sem, Exit.thenS]
  refine wpS_cond (t := false) (by simp [Act.eval, Array.replicate]) ?_
  simp only [Bool.false_eq_true, if_false]
  refine wpS_of_wp (wp_skip ?_)
  cases c₀
  simp_all [bodyPostS, results, Tryd.results20]
  exact (Below.refl _ _).alloc (Nat.le_refl _) _
set_option maxRecDepth 100000 in
set_option maxHeartbeats 1000000 in
theorem lcatch (b0 : Nat) (E : Int) (a : Nat) (x0 x1 x2 : Value) (w : World) (h0 : w.cell? ⟨b0, 0, none⟩ = some x0) (h1 : w.cell? ⟨b0 + 1, 0, none⟩ = some x1) (h2 : w.cell? ⟨b0 + 2, 0, none⟩ = some x2)
    (f0 : w.frozen? ⟨b0, 0, none⟩ = false) (f1 : w.frozen? ⟨b0 + 1, 0, none⟩ = false) (f2 : w.frozen? ⟨b0 + 2, 0, none⟩ = false) :
    CallsD Tryd.prog 20 #[.pointer (some ⟨b0, 0, none⟩), .pointer (some ⟨b0 + 1, 0, none⟩), .pointer (some ⟨b0 + 2, 0, none⟩)] (.panicking (failV E a)) w fun e u' w' =>
      e = .returned (.tuple #[]) ∧ u' = .panicking [{ v := .iface 46 (.agg #[.int .i64 E, .int .i64 a]), recovered := true }] ∧
      (w'.cell? ⟨b0, 0, none⟩ = some (.slice none 0 0) ∧ w'.cell? ⟨b0 + 1, 0, none⟩ = some (.int .i64 E) ∧ w'.cell? ⟨b0 + 2, 0, none⟩ = some (.int .i64 a)) ∧ RowKit.Below b0 w w' := by
  have hlt : b0 + 2 < w.heap.size := World.block_lt_of_cell? _ _ h2
  refine callsD_of_wpS Tryd.func20 rfl fun c₀ cs hu => ?_
  unfold failV at hu
  apply wpS_seq
  apply wpS_region
  simp [wpOpsS, go_sem, recoverD, hu, Tryd.ntmps20, Exit.thenS, assert_fail]
  apply wpS_seq
  apply wpS_region
  simp [wpOpsS, go_sem, Exit.thenS]
  refine wpS_cond (t := true) (by simp [Act.eval, Array.replicate]) ?_
  simp only [if_true]
  refine wpS_of_wp ?_
  refine wp_act (a' := { tmps := #[.pointer (some ⟨b0, 0, none⟩), .pointer (some ⟨b0 + 1, 0, none⟩), .pointer (some ⟨b0 + 2, 0, none⟩), .pointer (some ⟨w.heap.size, 0, none⟩), .bool true, .tuple #[.agg #[.int .i64 E, .int .i64 a], .bool true], .iface 46 (.agg #[.int .i64 E, .int .i64 a]), .tuple #[.agg #[.int .i64 E, .int .i64 a], .bool true], .agg #[.int .i64 E, .int .i64 a], .bool true, .bool true, undef, undef, undef, undef], defers := [] }) (by kernel_rfl) ?_
  have hB : RowKit.Below w.heap.size w (w.alloc (.cells #[.int .i64 E, .int .i64 a] 46)) := (Below.refl _ _).alloc (Nat.le_refl _) _
  have e0 : (w.alloc (.cells #[.int .i64 E, .int .i64 a] 46)).cell? ⟨w.heap.size, 0, none⟩ = some (.int .i64 E) := by simp
  have e1 : (w.alloc (.cells #[.int .i64 E, .int .i64 a] 46)).cell? ⟨w.heap.size, 1, none⟩ = some (.int .i64 a) := by simp
  replace h0 := (hB.cell (p := ⟨b0, 0, none⟩) (by show b0 < _; omega)).trans h0
  replace h1 := (hB.cell (p := ⟨b0 + 1, 0, none⟩) (by show b0 + 1 < _; omega)).trans h1
  replace h2 := (hB.cell (p := ⟨b0 + 2, 0, none⟩) (by show b0 + 2 < _; omega)).trans h2
  replace f0 := (hB.frozen (p := ⟨b0, 0, none⟩) (by show b0 < _; omega)).trans f0
  replace f1 := (hB.frozen (p := ⟨b0 + 1, 0, none⟩) (by show b0 + 1 < _; omega)).trans f1
  replace f2 := (hB.frozen (p := ⟨b0 + 2, 0, none⟩) (by show b0 + 2 < _; omega)).trans f2
  have HB := Lib.hid hB
  have n0 : ¬ w.heap.size = b0 := by omega
  have n1 : ¬ w.heap.size = b0 + 1 := by omega
  have n2 : ¬ w.heap.size = b0 + 2 := by omega
  clear hB
  generalize hg : w.heap.size = g at *
  generalize w.alloc (.cells #[.int .i64 E, .int .i64 a] 46) = W at *
  clear hg
  go_region
  have q0 : ∀ (W : World) (b o : Nat) (v x : Value) (c : Addr), W.cell? ⟨b, o, none⟩ = some x → ¬ c = ⟨b, o, none⟩ → (W.setCell c v).cell? ⟨b, o, none⟩ = some x := fun W b o v x c h hn => by
    rw [World.cell?_setCell_other _ _ _ _ (by first | exact hn | exact fun e => hn e.symm)]; exact h
  refine ⟨rfl, _, rfl, .tuple #[], by simp [results, Tryd.results20], rfl, rfl, ⟨?_, ?_, ?_⟩, ?_⟩
  · show ((((W.setCell _ _).setCell _ _).setCell _ _).cell? _) = _
    simp [go_sem, h0]
  · show ((((W.setCell _ _).setCell _ _).setCell _ _).cell? _) = _
    simp [go_sem, h1]
  · show ((((W.setCell _ _).setCell _ _).setCell _ _).cell? _) = _
    simp [go_sem, h2]
  · refine Below.drew ?_
    exact ((((HB.out.mono (by show b0 ≤ g; omega)).setCell (p := ⟨b0, 0, none⟩) (Nat.le_refl b0) _).setCell (p := ⟨b0 + 1, 0, none⟩) (by show b0 ≤ b0 + 1; omega) _).setCell (p := ⟨b0 + 2, 0, none⟩) (by show b0 ≤ b0 + 2; omega) _)

def _root_.Go.Proofs.YtoaeceeookknnaaDoor.Lx.Res.tk : Res → List Tok
  | .ok l => l
  | .er _ _ => []
def _root_.Go.Proofs.YtoaeceeookknnaaDoor.Lx.Res.e : Res → Int
  | .ok _ => 0
  | .er e _ => e
def _root_.Go.Proofs.YtoaeceeookknnaaDoor.Lx.Res.a : Res → Nat
  | .ok _ => 0
  | .er _ a => a
/-- What Lex gives. -/
def Gives (w : World) (R : Res) (e : Ending) (w' : World) : Prop := ∃ q b cap n, e = .returned (.tuple #[.slice q n cap, .int .i64 R.e, .int .i64 (R.a : Nat)]) ∧ SlT w' q b 0 n R.tk ∧ n ≤ cap ∧ RowKit.Below w.heap.size w w'
theorem lex_short {V : Nat → Int × Int × Int} {l : List UInt8} {ts : List Tok} (h : lex V l = .ok ts) : ts.length ≤ 2000 := by
  unfold lex at h
  split at h
  · cases h
  · exact (lx_fuel _ _ _ _ h).1
theorem cell_past (w : World) (o : Obj) (a : Addr) (h : a.block < w.heap.size) : (w.alloc o).cell? a = w.cell? a := ((Below.refl _ w).alloc (Nat.le_refl _) o).cell h
theorem frozen_past (w : World) (o : Obj) (a : Addr) (h : a.block < w.heap.size) : (w.alloc o).frozen? a = w.frozen? a := ((Below.refl _ w).alloc (Nat.le_refl _) o).frozen h
theorem cell_new (w : World) (x : Value) (T : Nat) : (w.alloc (.cells #[x] T)).cell? ⟨w.heap.size, 0, none⟩ = some x := by simp
theorem frozen_new (w : World) (x : Value) (T : Nat) : (w.alloc (.cells #[x] T)).frozen? ⟨w.heap.size, 0, none⟩ = false := by simp
/-- The four blocks that Lex makes. -/
def lexW (w : World) (s : ByteArray) : World := (((w.alloc (.cells #[.slice none 0 0] 23)).alloc (.cells #[.int .i64 0] 24)).alloc (.cells #[.int .i64 0] 3)).alloc (.cells #[.string s, .int .i64 0] 49)
theorem lexW_facts (w : World) (s : ByteArray) : RowKit.Below w.heap.size w (lexW w s) ∧ (lexW w s).cell? ⟨w.heap.size, 0, none⟩ = some (.slice none 0 0) ∧ (lexW w s).cell? ⟨w.heap.size + 1, 0, none⟩ = some (.int .i64 0) ∧ (lexW w s).cell? ⟨w.heap.size + 2, 0, none⟩ = some (.int .i64 0) ∧
    (lexW w s).frozen? ⟨w.heap.size, 0, none⟩ = false ∧ (lexW w s).frozen? ⟨w.heap.size + 1, 0, none⟩ = false ∧ (lexW w s).frozen? ⟨w.heap.size + 2, 0, none⟩ = false ∧ At2 (lexW w s) (w.heap.size + 3) (.string s) (.int .i64 0) ∧ (lexW w s).heap.size = w.heap.size + 4 := by
  unfold lexW
  refine ⟨((((Below.refl _ _).alloc (Nat.le_refl _) _).alloc (by simp) _).alloc (by first | (simp; done) | (simp; omega)) _).alloc (by first | (simp; done) | (simp; omega)) _, ?_, ?_, ?_, ?_, ?_, ?_, ?_, ?_⟩
  · rw [cell_past _ _ _ (by first | (simp; done) | (simp; omega)), cell_past _ _ _ (by first | (simp; done) | (simp; omega)), cell_past _ _ _ (by simp)]; simp
  · rw [cell_past _ _ _ (by first | (simp; done) | (simp; omega)), cell_past _ _ _ (by simp)]
    have := cell_new (w.alloc (.cells #[.slice none 0 0] 23)) (.int .i64 0) 24
    rwa [World.size_alloc] at this
  · rw [cell_past _ _ _ (by simp)]
    have := cell_new ((w.alloc (.cells #[.slice none 0 0] 23)).alloc (.cells #[.int .i64 0] 24)) (.int .i64 0) 3
    rwa [World.size_alloc, World.size_alloc] at this
  · rw [frozen_past _ _ _ (by first | (simp; done) | (simp; omega)), frozen_past _ _ _ (by first | (simp; done) | (simp; omega)), frozen_past _ _ _ (by simp)]; simp
  · rw [frozen_past _ _ _ (by first | (simp; done) | (simp; omega)), frozen_past _ _ _ (by simp)]
    have := frozen_new (w.alloc (.cells #[.slice none 0 0] 23)) (.int .i64 0) 24
    rwa [World.size_alloc] at this
  · rw [frozen_past _ _ _ (by simp)]
    have := frozen_new ((w.alloc (.cells #[.slice none 0 0] 23)).alloc (.cells #[.int .i64 0] 24)) (.int .i64 0) 3
    rwa [World.size_alloc, World.size_alloc] at this
  · have := At2.new (((w.alloc (.cells #[.slice none 0 0] 23)).alloc (.cells #[.int .i64 0] 24)).alloc (.cells #[.int .i64 0] 3)) (.string s) (.int .i64 0) 49
    rwa [World.size_alloc, World.size_alloc, World.size_alloc] at this
  · simp
set_option maxRecDepth 100000 in
set_option maxHeartbeats 2000000 in
theorem lex_any (s : ByteArray) (w : World) (hs : s.size ≤ 281474976710656) : Calls Tryd.prog 11 #[.string s] w fun e w' => Gives w (lex Vh s.data.toList) e w' := by
  have hmf : ∀ (fn : Fn) (first cap : Array Value) (w : World), (Instr.makeFunc fn first cap).run Tryd.prog w = .ok (.func fn first cap) w := fun _ _ _ _ => rfl
  have KT := Lib.hid (fun b w hA => tokens_any s b w hA hs)
  have HL := Lib.hid (fun ts (h : lex Vh s.data.toList = .ok ts) => lex_short h)
  generalize lex Vh s.data.toList = R at *
  go_enter_defers Tryd.func11, Tryd.ntmps11
  go_wp2_with fail
  have hF := lexW_facts w s
  change Calls Tryd.prog 21 #[.pointer (some ⟨w.heap.size + 3, 0, none⟩)] (lexW w s) fun e w' => _
  have HK := Lib.hid (KT.out _ _ hF.2.2.2.2.2.2.2.1)
  generalize lexW w s = W at *
  obtain ⟨fB, fc0, fc1, fc2, ff0, ff1, ff2, fA, fsz⟩ := hF
  have HB := Lib.hid fB
  refine HK.out.mono ?_
  intro e w2 hL
  have hkept : ∀ k o, k < W.heap.size → k ≠ w.heap.size + 3 → Kept (w.heap.size + 3) W w2 → w2.cell? ⟨k, o, none⟩ = W.cell? ⟨k, o, none⟩ ∧ w2.frozen? ⟨k, o, none⟩ = W.frozen? ⟨k, o, none⟩ := fun k o h1 h2 h =>
    ⟨World.cell?_of_block (w := W) (a := ⟨k, o, none⟩) (h.block k h1 h2), World.frozen?_of_block (w := W) (a := ⟨k, o, none⟩) (h.block k h1 h2)⟩
  have HKp := Lib.hid hkept
  clear hkept fA HK KT
  cases R with
  | ok ts =>
    obtain ⟨v, rfl, hO, hK⟩ := hL
    have ho := OwnT.reads hO (by have := HL.out ts rfl; omega)
    have c0 := (HKp.out w.heap.size 0 (by omega) (by omega) hK).1.trans fc0
    have c1 := (HKp.out (w.heap.size + 1) 0 (by omega) (by omega) hK).1.trans fc1
    have c2 : w2.cell? ⟨w.heap.size + 1 + 1, 0, none⟩ = _ := (HKp.out (w.heap.size + 2) 0 (by omega) (by omega) hK).1.trans fc2
    have f0 := (HKp.out w.heap.size 0 (by omega) (by omega) hK).2.trans ff0
    have f1 := (HKp.out (w.heap.size + 1) 0 (by omega) (by omega) hK).2.trans ff1
    have f2 : w2.frozen? ⟨w.heap.size + 1 + 1, 0, none⟩ = _ := (HKp.out (w.heap.size + 2) 0 (by omega) (by omega) hK).2.trans ff2
    have HO := Lib.hid hO
    obtain ⟨q, bb, cap, n, rfl, hsl, hnc, hbb⟩ := ho
    have HQ := Lib.hid hsl
    have HK2 := Lib.hid hK
    have hz2 := hK.size
    clear hO hsl hK fc0 fc1 fc2 ff0 ff1 ff2 fB HKp HL
    go_wp2_with fail
    refine leaves_cons (f := 20) (args := #[.pointer (some ⟨w.heap.size, 0, none⟩), .pointer (some ⟨w.heap.size + 1, 0, none⟩), .pointer (some ⟨w.heap.size + 1 + 1, 0, none⟩)]) (by simp) (by simp [go_sem]) ?_
    refine (lcatch_idle _ _ _ _).mono ?_
    rintro e u' w3 ⟨rfl, rfl, hB⟩
    have d0 : w3.cell? ⟨w.heap.size, 0, none⟩ = some (.slice q n cap) := (hB.cell (p := ⟨w.heap.size, 0, none⟩) (by simp [World.setCell]; omega)).trans (by simp [go_sem, c0])
    have d1 : w3.cell? ⟨w.heap.size + 1, 0, none⟩ = some (.int .i64 0) := (hB.cell (p := ⟨w.heap.size + 1, 0, none⟩) (by simp [World.setCell]; omega)).trans (by simp [go_sem, c1])
    have d2 : w3.cell? ⟨w.heap.size + 1 + 1, 0, none⟩ = some (.int .i64 0) := (hB.cell (p := ⟨w.heap.size + 1 + 1, 0, none⟩) (by simp [World.setCell]; omega)).trans (by simp [go_sem, c2])
    have hB2 := (hB.mono (B' := w.heap.size) (by simp [World.setCell]; omega))
    have hB3 : RowKit.Below w.heap.size w2 w3 := by
      refine Below.trans ?_ hB2
      repeat' (first | exact Below.refl _ _ | refine Below.setCell ?_ (by first | exact Nat.le_refl _ | (simp; done) | (simp; omega)) _)
    simp [Leaves, settle, results, Tryd.results11, go_sem, d0, d1, d2]
    refine ⟨q, bb, cap, n, rfl, HQ.out.of_block (fun hn => ?_) ?_, hnc, (HB.out.trans (HK2.out.below (by omega) (by omega))).trans hB3⟩
    · have h1 := HQ.out.lt hn
      have h2 := hbb hn
      refine (hB.block bb (by simp [World.setCell]; omega)).trans ?_
      rw [Below.heap_setCell _ ⟨w.heap.size + 1 + 1, 0, none⟩ _ _ (by show bb ≠ w.heap.size + 1 + 1; omega), Below.heap_setCell _ ⟨w.heap.size + 1, 0, none⟩ _ _ (by show bb ≠ w.heap.size + 1; omega), Below.heap_setCell _ ⟨w.heap.size, 0, none⟩ _ _ (by show bb ≠ w.heap.size; omega)]
    · exact hB3.size
  | er E a =>
    obtain ⟨rfl, hK⟩ := hL
    have c0 := (HKp.out w.heap.size 0 (by omega) (by omega) hK).1.trans fc0
    have c1 := (HKp.out (w.heap.size + 1) 0 (by omega) (by omega) hK).1.trans fc1
    have c2 : w2.cell? ⟨w.heap.size + 1 + 1, 0, none⟩ = _ := (HKp.out (w.heap.size + 2) 0 (by omega) (by omega) hK).1.trans fc2
    have f0 := (HKp.out w.heap.size 0 (by omega) (by omega) hK).2.trans ff0
    have f1 := (HKp.out (w.heap.size + 1) 0 (by omega) (by omega) hK).2.trans ff1
    have f2 : w2.frozen? ⟨w.heap.size + 1 + 1, 0, none⟩ = _ := (HKp.out (w.heap.size + 2) 0 (by omega) (by omega) hK).2.trans ff2
    have hz2 := hK.size
    have HK2 := Lib.hid hK
    go_wp2_with fail
    refine leaves_cons (f := 20) (args := #[.pointer (some ⟨w.heap.size, 0, none⟩), .pointer (some ⟨w.heap.size + 1, 0, none⟩), .pointer (some ⟨w.heap.size + 2, 0, none⟩)]) (by simp) (by simp [go_sem]) ?_
    refine (lcatch w.heap.size E a _ _ _ _ c0 c1 c2 f0 f1 f2).mono ?_
    rintro e u' w3 ⟨rfl, rfl, ⟨d0, d1, d2⟩, hB⟩
    simp [Leaves, settle, results, Tryd.results11, go_sem, d0, d1, d2]
    exact ⟨none, 0, 0, 0, rfl, SlT.nil _ _, Nat.le_refl _, (HB.out.trans (HK2.out.below (by omega) (by omega))).trans hB⟩
end Go.Proofs.YtoaeceeookknnaaDoor
