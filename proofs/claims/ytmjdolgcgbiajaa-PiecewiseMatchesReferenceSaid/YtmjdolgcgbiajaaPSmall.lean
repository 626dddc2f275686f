/-
  Contracts of the small functions of the laws; slices that are built of pieces.
-/
import Derived.Test.YtmjdolgcgbiajaaPScale
import Derived.Test.YtmjdolgcgbiajaaPBelow
import Derived.Test.YtmjdolgcgbiajaaPValidR
import Derived.Test.YtmjdolgcgbiajaaPRefE
namespace Go.Proofs.Ytmjdolgcgbiajaa
open Go.RowKit Go.Shelf Pw

set_option maxRecDepth 100000 in
set_option maxHeartbeats 400000 in
theorem lpiece_any (f v s : Int) (w : World) : Calls Try.prog 33 #[.int .i64 f, .int .i64 v, .int .i64 s] w fun e w' => e = .returned (.agg #[.int .i64 f, .int .i64 v, .int .i64 1, .int .i64 s, .int .i64 1]) ∧ RowKit.Below w.heap.size w w' := by
  go_enter Try.func33, Try.ntmps33
  go_wp2
  exact bodyPost_ret (v := .agg #[.int .i64 f, .int .i64 v, .int .i64 1, .int .i64 s, .int .i64 1]) (by simp [results, Try.results33, go_sem]) rfl ⟨rfl, (by repeat' (first | (with_reducible refine Below.setCell ?_ ?_ _) | (with_reducible refine Below.alloc ?_ ?_ _) | (with_reducible refine Below.drew ?_) | (with_reducible refine below_drewN ?_ _) | (with_reducible exact Below.refl _ _) | omega | (simp; done) | (simp; omega)))⟩
set_option maxRecDepth 100000 in
set_option maxHeartbeats 400000 in
theorem few_any (p : Option Addr) (len cap : Nat) (w : World) : Calls Try.prog 11 #[.slice p len cap] w fun e w' => e = .returned (.bool (decide (len ≤ 70))) ∧ RowKit.Below w.heap.size w w' := by
  by_cases h : len ≤ 70
  · have hz : (len : Int) ≤ 70 := by omega
    rw [decide_eq_true h]
    go_enter Try.func11, Try.ntmps11
    go_wp2
    go_ret
    exact ⟨rfl, Below.refl _ _⟩
  · have hz : ¬ (len : Int) ≤ 70 := by omega
    rw [decide_eq_false h]
    go_enter Try.func11, Try.ntmps11
    go_wp2
    go_ret
    exact ⟨rfl, Below.refl _ _⟩
set_option maxRecDepth 100000 in
set_option maxHeartbeats 400000 in
theorem place_any (x : Int) (w : World) (h0 : 0 ≤ x) (h1 : x ≤ 4294967295) : Calls Try.prog 26 #[.int .u32 x] w fun e w' => e = .returned (.int .i64 (x % 100001)) ∧ RowKit.Below w.heap.size w w' := by
  go_enter Try.func26, Try.ntmps26
  go_wp2
  go_ret
  exact ⟨rfl, Below.refl _ _⟩
/-- Both are functions. -/
noncomputable def bothR (f g : List RP) : Bool := vR f && vR g
theorem vR_few {l : List RP} (h : ¬ l.length ≤ 70) : vR l = false := vR_no fun k => h (by have := k.2.1; omega)
set_option maxRecDepth 100000 in
set_option maxHeartbeats 1000000 in
theorem both_any (f g : List RP) (pf pg : Option Addr) (bf of cf lf bg og cg lg : Nat) (w : World) (hS : SlP w pf bf of lf f) (hS' : SlP w pg bg og lg g) :
    Calls Try.prog 25 #[.slice pf lf cf, .slice pg lg cg] w fun e w' => e = .returned (.bool (bothR f g)) ∧ RowKit.Below w.heap.size w w' := by
  have HB0 : Hid (RowKit.Below w.heap.size w w) := Below.refl _ _
  have F1 := Lib.hid (few_any pf lf cf)
  have F2 := Lib.hid (few_any pg lg cg)
  have K := Lib.hid (fun w' (h : RowKit.Below w.heap.size w w') => rvalid_sl f pf bf of cf lf w' (hS.below h))
  have K' := Lib.hid (fun w' (h : RowKit.Below w.heap.size w w') => rvalid_sl g pg bg og cg lg w' (hS'.below h))
  obtain ⟨c, hc⟩ : ∃ c, c = bothR f g := ⟨_, rfl⟩
  rw [← hc]
  unfold bothR at hc
  by_cases h1 : lf ≤ 70
  case neg =>
    have E : Hid (c = false) := by show _ = _; rw [hc, vR_few (by rw [hS.ln]; exact h1)]; rfl
    rw [decide_eq_false h1] at F1
    clear hS hS' hc
    go_enter Try.func25, Try.ntmps25
    go_wp2_with fail
    refine (F1.out _).mono ?_
    rintro _ w1 ⟨rfl, hb⟩
    have HB1 := Lib.hid hb
    clear hb
    go_wp2
    go_ret
    exact ⟨ret_bool E.out.symm, HB1.out⟩
  case pos =>
    rw [decide_eq_true h1] at F1
    by_cases h2 : lg ≤ 70
    case neg =>
      have E : Hid (c = false) := by show _ = _; rw [hc, vR_few (l := g) (by rw [hS'.ln]; exact h2)]; simp
      rw [decide_eq_false h2] at F2
      clear hS hS' hc
      go_enter Try.func25, Try.ntmps25
      go_wp2_with fail
      refine (F1.out _).mono ?_
      rintro _ w1 ⟨rfl, hb⟩
      have HB1 := Lib.hid hb
      clear hb
      go_wp2_with fail
      refine (F2.out _).mono ?_
      rintro _ w2 ⟨rfl, hb⟩
      have HB2 := Lib.hid (HB1.out.trans (hb.mono HB1.out.size))
      clear hb
      go_wp2
      go_ret
      exact ⟨ret_bool E.out.symm, HB2.out⟩
    case pos =>
      rw [decide_eq_true h2] at F2
      cases hf : vR f with
      | false =>
        rw [hf] at K hc
        have E : Hid (c = false) := by show _ = _; rw [hc]; rfl
        clear hS hS' hc hf
        go_enter Try.func25, Try.ntmps25
        go_wp2_with fail
        refine (F1.out _).mono ?_
        rintro _ w1 ⟨rfl, hb⟩
        have HB1 := Lib.hid hb
        clear hb
        go_wp2_with fail
        refine (F2.out _).mono ?_
        rintro _ w2 ⟨rfl, hb⟩
        have HB2 := Lib.hid (HB1.out.trans (hb.mono HB1.out.size))
        clear hb
        go_wp2_with fail
        refine (K.out _ HB2.out).mono ?_
        rintro _ w3 ⟨rfl, hb⟩
        have HB3 := Lib.hid (HB2.out.trans (hb.mono HB2.out.size))
        clear hb
        go_wp2
        go_ret
        exact ⟨ret_bool E.out.symm, HB3.out⟩
      | true =>
        rw [hf] at K hc
        have E : Hid (c = vR g) := by show _ = _; rw [hc]; rfl
        rw [← E.out] at K'
        clear hS hS' hc hf E
        go_enter Try.func25, Try.ntmps25
        go_wp2_with fail
        refine (F1.out _).mono ?_
        rintro _ w1 ⟨rfl, hb⟩
        have HB1 := Lib.hid hb
        clear hb
        go_wp2_with fail
        refine (F2.out _).mono ?_
        rintro _ w2 ⟨rfl, hb⟩
        have HB2 := Lib.hid (HB1.out.trans (hb.mono HB1.out.size))
        clear hb
        go_wp2_with fail
        refine (K.out _ HB2.out).mono ?_
        rintro _ w3 ⟨rfl, hb⟩
        have HB3 := Lib.hid (HB2.out.trans (hb.mono HB2.out.size))
        clear hb
        go_wp2_with fail
        refine (K'.out _ HB3.out).mono ?_
        rintro _ w4 ⟨rfl, hb⟩
        have HB4 := Lib.hid (HB3.out.trans (hb.mono HB3.out.size))
        clear hb
        go_wp2
        go_ret
        exact ⟨rfl, HB4.out⟩

/-! ### Slices that are built -/
theorem slp_new (w : World) (l : List RP) (cells : Array Value) (T : TypeId) (n : Nat) (hn : l.length = n) (h : cells.toList = flP l) (hm : n ≤ 1000) (hI : ∀ s, s ∈ l → s.In) : SlP (w.alloc (.cells cells T)) (some ⟨w.heap.size, 0, none⟩) w.heap.size 0 n l := by
  have hc : ∀ j u, (flP l)[j]? = some u → (w.alloc (.cells cells T)).cell? ⟨w.heap.size, j, none⟩ = some u := fun j u hj => by
    have e : cells[j]? = some u := by rw [← Array.getElem?_toList, h]; exact hj
    have := World.alloc_heap_new w (.cells cells T)
    unfold World.cell?
    rw [this]
    exact e
  refine ⟨hn, fun _ => rfl, fun k hk => ?_, fun _ => by simp, by omega, hI⟩
  obtain ⟨h0, h1, h2, h3, h4⟩ := flP_at l k hk
  simp only [Nat.zero_add]
  exact ⟨hc _ _ h0, hc _ _ h1, hc _ _ h2, hc _ _ h3, hc _ _ h4⟩
end Go.Proofs.Ytmjdolgcgbiajaa
