/-
  At the commit of SEAT.json, in whatever memory: for all uint64 n, v, w, b and c, GroupCommits returns true (the product of two commitments with one second base is the commitment to the sum, blinded by the sum, modulo Q), without a data race.
  Conditions: the listed variables of the library hold what the program's text lays; nothing else.
-/
import Derived.Test.YtidhhndclkilnaaDoorGFrame
import Derived.Test.YtidhhndclkilnaaDoorCards
import Derived.Test.YtidhhndclkilnaaDoorTie
import Derived.Test.YtidhhndclkilnaaDoorGComW
import Derived.Test.YtidhhndclkilnaaDoorGProg
import Derived.Lib.SmallJoins
import Derived.SevenTiedAt
namespace Go.Proofs.YtidhhndclkilnaaDoor
open Go.ChangeShapes Go.WideShapes Go.ChangeAt Go.WideMaps Go.WideElems Go.RowKit Go.Joins Dg

namespace lawGroupCommits
set_option maxRecDepth 100000 in
theorem lifted (os : Os) (started : os.Started) (H : Type) (enc : TypeId × Value → H) :
    ReturnsInHanded {} Tryd.checked os 5 .any (fun w args => (Rows.groupCommitsSpec.pre enc Tryd.prog Tryd.f5 [] false w args ∧ laidMetH Tryd.prog lst w) ∧ sizedMet enc Tryd.prog Tryd.f5 (OpenSpec.ofChange Rows.groupCommitsSpec) false w args)
      (Rows.groupCommitsSpec.post enc Tryd.prog Tryd.f5 false true false false) := by
  refine returnsInHanded_of_change_and (C := Tryd.checked) (X := fun w _ => laidMetH Tryd.prog lst w) (fun _ _ _ hh h => h.of_heap hh) own started (by kernel_rfl) Tryd.func5
    (ChangeSpec.witness_shaped (enc := enc) (C := Tryd.checked) (os := os) (X := fun w _ => laidMetH Tryd.prog lst w) false (World.doorLaid Tryd.prog 400 os) #[.int .u64 0, .int .u64 0, .int .u64 0, .int .u64 0, .int .u64 0] 8 rfl (World.shaped_of_RefB (by kernel_rfl) (by kernel_rfl)) (by kernel_rfl) (by kernel_rfl) (by kernel_rfl) (door_met os _)) ?_
  intro W base args ds gs before hval0 hW _ hsz hL _
  have hval : ∀ (j : Nat) t v, Tryd.f5.params[j]? = some t → args[j]? = some v → Value.okWide Tryd.prog W .any base t v := hval0
  have hW' := hW
  obtain ⟨p, q, hA0, hV, rfl, hfz, hnd⟩ := hW
  have hA : DataW.TrodAll enc Tryd.prog W 0 (fun _ => true) true Tryd.f5.params.toList args.toList ds p := hA0
  rw [Tryd.params5] at hA hval
  have hE := env_of_laid hL
  obtain ⟨v0, vs0, d0, ds0, p0, q0, hargs, rfl, rfl, h0, r0⟩ := trodAll_cons hA
  obtain ⟨v1, vs1, d1, ds1, p1, q1, rfl, rfl, rfl, h1, r1⟩ := trodAll_cons r0
  obtain ⟨v2, vs2, d2, ds2, p2, q2, rfl, rfl, rfl, h2, r2⟩ := trodAll_cons r1
  obtain ⟨v3, vs3, d3, ds3, p3, q3, rfl, rfl, rfl, h3, r3⟩ := trodAll_cons r2
  obtain ⟨v4, vs4, d4, ds4, p4, q4, rfl, rfl, rfl, h4, r4⟩ := trodAll_cons r3
  obtain ⟨rfl, rfl, rfl⟩ := trodAll_nil r4
  obtain rfl : args = #[v0, v1, v2, v3, v4] := by cases args; simpa using hargs
  obtain ⟨rfl, rfl⟩ := trodVars_none hV
  obtain ⟨a0, rfl, rfl, rfl, wa0⟩ := open_int Tryd.underlying41 (hval 0 41 v0 rfl rfl) h0
  obtain ⟨x0, n0, rfl⟩ := bd_u64 wa0
  obtain ⟨a1, rfl, rfl, rfl, wa1⟩ := open_int Tryd.underlying41 (hval 1 41 v1 rfl rfl) h1
  obtain ⟨x1, n1, rfl⟩ := bd_u64 wa1
  obtain ⟨a2, rfl, rfl, rfl, wa2⟩ := open_int Tryd.underlying41 (hval 2 41 v2 rfl rfl) h2
  obtain ⟨x2, n2, rfl⟩ := bd_u64 wa2
  obtain ⟨a3, rfl, rfl, rfl, wa3⟩ := open_int Tryd.underlying41 (hval 3 41 v3 rfl rfl) h3
  obtain ⟨x3, n3, rfl⟩ := bd_u64 wa3
  obtain ⟨a4, rfl, rfl, rfl, wa4⟩ := open_int Tryd.underlying41 (hval 4 41 v4 rfl rfl) h4
  obtain ⟨x4, n4, rfl⟩ := bd_u64 wa4
  clear hA0 hval0
  simp only [List.append_nil] at hW'
  refine (commits_law con x0 x1 x2 x3 x4 W hE n0 n1 n2 n3 n4).mono fun e W' ⟨he, hnx⟩ => ?_
  subst he
  refine ⟨_, rfl, _, _, _, [], [], [], hW', trodAll_mk1 (shut_bool Tryd.underlying4 true), ?_, rfl, hnx.frame _, fun h => by cases h⟩
  exact (trodAll_cons_mk (shut_int Tryd.underlying41 wa0) (trodAll_cons_mk (shut_int Tryd.underlying41 wa1) (trodAll_cons_mk (shut_int Tryd.underlying41 wa2) (trodAll_cons_mk (shut_int Tryd.underlying41 wa3) (trodAll_cons_mk (shut_int Tryd.underlying41 wa4) trodAll_mk0)))))

theorem row_holds : Rows.GroupCommitsSaid :=
  OpenClaim.holds_of_wide 5 Tryd.f5 rfl rfl rfl rfl rfl rfl rfl ⟨rfl, rfl, rfl, rfl, rfl⟩ rfl rfl rfl rfl rfl (by kernel_rfl) Tryd.func5 (by kernel_rfl)
    (of_decide_eq_true (by kernel_rfl)) (by unfold Func.isWrapper; rw [if_neg (of_decide_eq_false (by kernel_rfl))]; exact ⟨rfl, rfl⟩)
    (fun os started H enc _ => lifted os started H enc)

theorem holds : Rows.GroupCommitsCardSaid :=
  Claim7.holds_tied_plain_at .later [] [.data, .data, .data] true (true, "ecc7fcc30b7c210339517422c9a97f6581b00d2fe6b56d8a11637f29b0817de5") false
    row_holds (fun _ h => by cases h) (by kernel_rfl) (fun _ h => by cases h) groupCommits_row_tie rfl ⟨rfl, rfl⟩ (by kernel_rfl) rfl
    (fun f fn hf hfn => by
      obtain rfl : f = 5 := Option.some.inj ((show Tryd.prog.funcNamed "cohousing/cohousinglaw08.GroupCommits" = some 5 by kernel_rfl).symm.trans hf) |>.symm
      obtain rfl : fn = Tryd.f5 := (Option.some.inj (Tryd.func5.symm.trans hfn)).symm
      exact ⟨by kernel_rfl, fun j t ht => by
        rw [Tryd.params5] at ht
        have hm : t ∈ [41, 41, 41, 41, 41] := by simpa using Array.mem_of_getElem? ht
        have hall : ([41, 41, 41, 41, 41].all fun u => !Tryd.prog.wantsStandIn u) = true := by kernel_rfl
        exact (show Tryd.prog.wantsStandIn t = false by simpa using List.all_eq_true.1 hall t hm)⟩)
    (by kernel_rfl)
end lawGroupCommits
#print axioms lawGroupCommits.holds
end Go.Proofs.YtidhhndclkilnaaDoor
