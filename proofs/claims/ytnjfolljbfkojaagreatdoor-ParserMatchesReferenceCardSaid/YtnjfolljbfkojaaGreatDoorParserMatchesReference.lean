import Derived.Test.YtnjfolljbfkojaaGreatDoorCards
import Derived.Test.YtnjfolljbfkojaaGreatDoorTie
import Derived.Lib.SmallJoins
import Derived.SevenTiedAt
import Derived.Test.YtnjfolljbfkojaaGreatDoorMBQ
set_option maxRecDepth 100000
set_option maxHeartbeats 20000000
namespace Go.Proofs.YtnjfolljbfkojaaGreatDoor
open Go.Value renaming int→zI
open Go.IntKind renaming i64→zL
open Go.Lib renaming hid→zH
open Go.ChangeShapes Go.WideShapes Go.ChangeAt Go.WideMaps Go.WideElems Go.RowKit Go.Joins Lx
open Go.ChangeMaps (open_string shut_string)
namespace lawParserMatchesReference
theorem lifted (os:Os)(started:os.Started)(H:Type)(enc:TypeId×Value->H) :
  ReturnsInHanded {} Tryz.checked os 3 .any (fun w args=>(Rows.parserMatchesReferenceSpec.pre enc Tryz.prog Tryz.f3 [] false w args/\laidMetH Tryz.prog lst w)/\sizedMet enc Tryz.prog Tryz.f3 (OpenSpec.ofChange Rows.parserMatchesReferenceSpec) false w args)
   (Rows.parserMatchesReferenceSpec.post enc Tryz.prog Tryz.f3 false true false false):=by
 refine returnsInHanded_of_change_and (C:=Tryz.checked) (X:=fun w _=>laidMetH Tryz.prog lst w) (fun _ _ _ hh h=>h.of_heap hh) own started zab Tryz.func3
  (ChangeSpec.witness_shaped (enc:=enc) (C:=Tryz.checked) (os:=os) (X:=fun w _=>laidMetH Tryz.prog lst w) false (World.doorLaid Tryz.prog 400 os) #[.string ⟨#[]⟩] 8 rfl (World.shaped_of_RefB zab zab) zab zab zab (yT os _)) ?_
 intro W base args ds gs before hval0 hW _ hsz _ _
 have hval:∀(j:Nat) t v,Tryz.f3.params[j]? = some t->args[j]? = some v->Value.okWide Tryz.prog W .any base t v:=hval0
 have hW':=hW
 obtain⟨p,q,hA0,hV,rfl,hfz,hnd⟩:=hW
 have hA:DataW.TrodAll enc Tryz.prog W 0 (fun _=>true) true Tryz.f3.params.toList args.toList ds p:=hA0
 rw[Tryz.params3] at hA hval
 obtain⟨v0,vs0,d0,ds0,p0,q0,hargs,rfl,rfl,h0,r0⟩:=trodAll_cons hA
 obtain⟨rfl,rfl,rfl⟩:=trodAll_nil r0
 obtain rfl:args=#[v0]:=by cases args;simpa using hargs
 obtain⟨rfl,rfl⟩:=trodVars_none hV
 obtain⟨s0,rfl,rfl,rfl,ws0⟩:=open_string Tryz.underlying9 (hval 0 9 v0 rfl rfl) h0
 have hs0:s0.size<=281474976710656:=by
  have h1:=sized_string hsz (j:=0) (t:=9) rfl rfl
  have h2:=reachBytes_lt
  have e1:s0.size=s0.data.size:=rfl
  have e2:s0.data.toList.length=s0.data.size:=Array.length_toList
  omega
 clear hA0 hval0
 simp only[List.append_nil] at hW'
 refine(uh s0 W hs0).mono fun e W' ⟨he,hnx⟩=>?_
 subst he
 refine⟨_,rfl,_,_,_,[],[],[],hW',trodAll_mk1 (shut_bool Tryz.underlying4 true),?_,rfl,hnx.frame _,fun h=>by cases h⟩
 exact(trodAll_cons_mk (shut_string Tryz.underlying9 ws0) trodAll_mk0)
theorem uY:Rows.ParserMatchesReferenceSaid :=
 OpenClaim.holds_of_wide 3 Tryz.f3 rfl rfl rfl rfl rfl rfl rfl ⟨rfl,rfl,rfl,rfl,rfl⟩ rfl rfl rfl rfl rfl zab Tryz.func3 zab
  (of_decide_eq_true zab) (by unfold Func.isWrapper;rw[if_neg (of_decide_eq_false zab)];exact⟨rfl,rfl⟩)
  (fun os started H enc _=>lifted os started H enc)
theorem holds:Rows.ParserMatchesReferenceCardSaid :=
 Claim7.holds_tied_plain_at .later [] [.data, .data, .data, .sentinel, .sentinel] true (true, "d6dca3e0cf75d8fc3ff21ef01baea541267c5a66674a3c332c18f34551731c17") true
  uY (fun _ h=>by cases h) zab (fun _ h=>by cases h) parserMatchesReference_row_tie rfl ⟨rfl,rfl⟩ zab rfl
  (fun f fn hf hfn=>by
   obtain rfl : f = 3 := Option.some.inj ((show Tryz.prog.funcNamed "cohousing/cohousinglaw09.ParserMatchesReference" = some 3 by kernel_rfl).symm.trans hf) |>.symm
   obtain rfl:fn=Tryz.f3:=(Option.some.inj (Tryz.func3.symm.trans hfn)).symm
   exact⟨zab,fun j t ht=>by
    rw[Tryz.params3] at ht
    have hm:t ∈ [9]:=by simpa using Array.mem_of_getElem? ht
    have hall:([9].all fun u=>!Tryz.prog.wantsStandIn u)=true:=zab
    exact(show Tryz.prog.wantsStandIn t=false by simpa using List.all_eq_true.1 hall t hm)⟩)
  zab
end lawParserMatchesReference
#print axioms lawParserMatchesReference.holds
end Go.Proofs.YtnjfolljbfkojaaGreatDoor
