/-
  At the commit of SEAT.json, in whatever memory: for all uint64 key and once, every message and every signature, GroupSigns returns true (what was signed is right for the public key, and any pair of exponents is right exactly if it has the challenge that the words ask for), without a data race.
  Conditions: the listed variables of the library hold what the program's text lays; nothing else.
-/
import Derived.Test.YtidhhndclkilnaaDoorGFrame
import Derived.Test.YtidhhndclkilnaaDoorCards
import Derived.Test.YtidhhndclkilnaaDoorTie
import Derived.Test.YtidhhndclkilnaaDoorGSignW
import Derived.Test.YtidhhndclkilnaaDoorGProg
import Derived.Lib.SmallJoins
import Derived.SevenTiedAt
namespace Go.Proofs.YtidhhndclkilnaaDoor
open Go.ChangeShapes Go.WideShapes Go.ChangeAt Go.WideMaps Go.WideElems Go.RowKit Go.Joins Dg

namespace lawGroupSigns
set_option maxRecDepth 100000 in
theorem lifted (os : Os) (started : os.Started) (H : Type) (enc : TypeId × Value → H) :
    ReturnsInHanded {} Tryd.checked os 7 .any (fun w args => (Rows.groupSignsSpec.pre enc Tryd.prog Tryd.f7 [] false w args ∧ laidMetH Tryd.prog lst w) ∧ sizedMet enc Tryd.prog Tryd.f7 (OpenSpec.ofChange Rows.groupSignsSpec) false w args)
      (Rows.groupSignsSpec.post enc Tryd.prog Tryd.f7 false true false false) := by
  refine returnsInHanded_of_change_and (C := Tryd.checked) (X := fun w _ => laidMetH Tryd.prog lst w) (fun _ _ _ hh h => h.of_heap hh) own started (by kernel_rfl) Tryd.func7
    (ChangeSpec.witness_shaped (enc := enc) (C := Tryd.checked) (os := os) (X := fun w _ => laidMetH Tryd.prog lst w) false (World.doorLaid Tryd.prog 400 os) #[.int .u64 0, .int .u64 0, .slice none 0 0, .agg #[.int .i64 0, .int .i64 0]] 8 rfl (World.shaped_of_RefB (by kernel_rfl) (by kernel_rfl)) (by kernel_rfl) (by kernel_rfl) (by kernel_rfl) (door_met os _)) ?_
  intro W base args ds gs before hval0 hW _ hsz hL _
  have hval : ∀ (j : Nat) t v, Tryd.f7.params[j]? = some t → args[j]? = some v → Value.okWide Tryd.prog W .any base t v := hval0
  have hW' := hW
  obtain ⟨p, q, hA0, hV, rfl, hfz, hnd⟩ := hW
  have hA : DataW.TrodAll enc Tryd.prog W 0 (fun _ => true) true Tryd.f7.params.toList args.toList ds p := hA0
  rw [Tryd.params7] at hA hval
  have hE := env_of_laid hL
  obtain ⟨v0, vs0, d0, ds0, p0, q0, hargs, rfl, rfl, h0, r0⟩ := trodAll_cons hA
  obtain ⟨v1, vs1, d1, ds1, p1, q1, rfl, rfl, rfl, h1, r1⟩ := trodAll_cons r0
  obtain ⟨v2, vs2, d2, ds2, p2, q2, rfl, rfl, rfl, h2, r2⟩ := trodAll_cons r1
  obtain ⟨v3, vs3, d3, ds3, p3, q3, rfl, rfl, rfl, h3, r3⟩ := trodAll_cons r2
  obtain ⟨rfl, rfl, rfl⟩ := trodAll_nil r3
  obtain rfl : args = #[v0, v1, v2, v3] := by cases args; simpa using hargs
  obtain ⟨rfl, rfl⟩ := trodVars_none hV
  obtain ⟨a0, rfl, rfl, rfl, wa0⟩ := open_int Tryd.underlying41 (hval 0 41 v0 rfl rfl) h0
  obtain ⟨x0, n0, rfl⟩ := bd_u64 wa0
  obtain ⟨a1, rfl, rfl, rfl, wa1⟩ := open_int Tryd.underlying41 (hval 1 41 v1 rfl rfl) h1
  obtain ⟨x1, n1, rfl⟩ := bd_u64 wa1
  obtain ⟨sl2, len2, cap2, rfl⟩ := okWide_slice Tryd.underlying24 (hval 2 24 v2 rfl rfl)
  obtain ⟨l2, b2, off2, hS2, hu2, hc2⟩ := open_i64 h2
  obtain ⟨c3, e3, y3, z3, m3, rfl, rfl, rfl, hy3, hz3⟩ := open_agg2 Tryd.underlying23 (by kernel_rfl) cells_sig (hval 3 23 v3 rfl rfl) h3
  obtain ⟨a3, ea3, rfl, wa3⟩ := DataW.trod_int Tryd.underlying3 hy3
  obtain ⟨b3, eb3, rfl, wb3⟩ := DataW.trod_int Tryd.underlying3 hz3
  simp at ea3 eb3
  subst ea3 eb3
  have st3 : ∀ (W' : World) (sp : Nat → Bool), DataW.Trod enc Tryd.prog W' 0 sp true 23 (.agg #[.int .i64 a3, .int .i64 b3]) (.agg [.lit (.int .i64 a3), .lit (.int .i64 b3)]) [] := fun W' sp =>
    shut_agg2 (y0 := (.lit (.int .i64 a3), [])) (y1 := (.lit (.int .i64 b3), [])) Tryd.underlying23 (by kernel_rfl) cells_sig ⟨1, by simp [DataW.trod, Tryd.underlying3, wa3]⟩ ⟨1, by simp [DataW.trod, Tryd.underlying3, wb3]⟩
  clear hA0 hval0
  simp only [List.append_nil] at hW'
  have hlt2 : ∀ y ∈ p2, y.block < W.heap.size := fun y hy => by simpa using hW'.lt y (by simp [hy])
  have harg2 : ∀ W' : World, Below W.heap.size W W' → DataW.Trod enc Tryd.prog W' 0 (fun b => decide (b < W.heap.size)) true 24 (.slice sl2 len2 cap2) d2 p2 :=
    fun W' hn => Below.trod laidOut (by kernel_rfl) (of_decide_eq_true (by kernel_rfl)) h2 hn hlt2
  refine (signs_law con x0 x1 l2 sl2 b2 off2 cap2 len2 a3 b3 W hE n0 n1 hS2 hu2 hc2).mono fun e W' ⟨he, hnx⟩ => ?_
  subst he
  refine ⟨_, rfl, _, _, _, [], p2, [], hW', trodAll_mk1 (shut_bool Tryd.underlying4 true), ?_, rfl, hnx.frame _, fun h => by cases h⟩
  have ht := (trodAll_cons_mk (shut_int Tryd.underlying41 wa0) (trodAll_cons_mk (shut_int Tryd.underlying41 wa1) (trodAll_cons_mk (harg2 _ hnx) (trodAll_cons_mk (st3 _ _) trodAll_mk0))))
  simp only [List.append_nil] at ht
  exact ht

theorem row_holds : Rows.GroupSignsSaid :=
  OpenClaim.holds_of_wide 7 Tryd.f7 rfl rfl rfl rfl rfl rfl rfl ⟨rfl, rfl, rfl, rfl, rfl⟩ rfl rfl rfl rfl rfl (by kernel_rfl) Tryd.func7 (by kernel_rfl)
    (of_decide_eq_true (by kernel_rfl)) (by unfold Func.isWrapper; rw [if_neg (of_decide_eq_false (by kernel_rfl))]; exact ⟨rfl, rfl⟩)
    (fun os started H enc _ => lifted os started H enc)

theorem holds : Rows.GroupSignsCardSaid :=
  Claim7.holds_tied_plain_at .later [] [.data, .data, .data] true (true, "ecc7fcc30b7c210339517422c9a97f6581b00d2fe6b56d8a11637f29b0817de5") false
    row_holds (fun _ h => by cases h) (by kernel_rfl) (fun _ h => by cases h) groupSigns_row_tie rfl ⟨rfl, rfl⟩ (by kernel_rfl) rfl
    (fun f fn hf hfn => by
      obtain rfl : f = 7 := Option.some.inj ((show Tryd.prog.funcNamed "cohousing/cohousinglaw08.GroupSigns" = some 7 by kernel_rfl).symm.trans hf) |>.symm
      obtain rfl : fn = Tryd.f7 := (Option.some.inj (Tryd.func7.symm.trans hfn)).symm
      exact ⟨by kernel_rfl, fun j t ht => by
        rw [Tryd.params7] at ht
        have hm : t ∈ [41, 41, 24, 23] := by simpa using Array.mem_of_getElem? ht
        have hall : ([41, 41, 24, 23].all fun u => !Tryd.prog.wantsStandIn u) = true := by kernel_rfl
        exact (show Tryd.prog.wantsStandIn t = false by simpa using List.all_eq_true.1 hall t hm)⟩)
    (by kernel_rfl)
end lawGroupSigns
#print axioms lawGroupSigns.holds
end Go.Proofs.YtidhhndclkilnaaDoor
