import Derived.Test.YtnjfolljbfkojaaGreatDoorMAJ
set_option maxRecDepth 100000
set_option maxHeartbeats 20000000
namespace Go.Proofs.YtnjfolljbfkojaaGreatDoor
open Go.Value renaming int→zI
open Go.IntKind renaming i64→zL
open Go.Lib renaming hid→zH
open Go.RowKit Lx
theorem vZ:∀l:List UInt8,gp true l=(l.takeWhile lin).length+gp false (l.drop (l.takeWhile lin).length)
 | []=>rfl
 | c::l=>by
  by_cases h:c.toNat=10
  ·have e:lin c=false:=by unfold lin;simp[h]
   rw[List.takeWhile_cons,e]
   simp only[gp,Bool.false_eq_true,if_false,List.length_nil,List.drop_zero]
   have e2:blk c=true:=by unfold blk;simp[h]
   rw[if_pos h,if_neg zac,if_pos e2];omega
  ·have e:lin c=true:=by unfold lin;simp[h]
   rw[List.takeWhile_cons,e]
   simp only[gp,if_true,List.length_cons,List.drop_succ_cons]
   rw[if_neg h,vZ l];omega
theorem iD {l:List UInt8}{j:Nat}(h:j<l.length):l.drop j=l.getD j 0::l.drop (j+1):=by
 rw[List.drop_eq_getElem_cons h,List.getD_eq_getElem?_getD,List.getElem?_eq_getElem h];rfl
theorem qX {l:List UInt8}{j:Nat}(h:j<l.length)(hb:blk (l.getD j 0)=true):gp false (l.drop j)=1+gp false (l.drop (j+1)):=by
 rw[iD h];simp only[gp]
 rw[if_neg (eY _ hb).2.2.2.2.2,if_pos hb]
theorem BK {l:List UInt8}{j:Nat}(h:j<l.length)(hb:(l.getD j 0).toNat=35):gp false (l.drop j)=((l.drop j).takeWhile lin).length+gp false (l.drop (j+((l.drop j).takeWhile lin).length))/\1<=((l.drop j).takeWhile lin).length:=by
 have e:gp false (l.drop j)=gp true (l.drop j):=by
  rw[iD h];simp only[gp]
  rw[if_pos hb,if_neg (by rw[hb];decide)]
 rw[e,vZ,List.drop_drop]
 refine⟨rfl,?_⟩
 rw[iD h,List.takeWhile_cons]
 have:lin (l.getD j 0)=true:=by unfold lin;rw[hb];rfl
 rw[this];simp
theorem ww {l:List UInt8}{j:Nat}(h:j<l.length)(hb:blk (l.getD j 0)=false)(hh:(l.getD j 0).toNat≠35):gp false (l.drop j)=0:=by
 rw[iD h];simp only[gp]
 rw[if_neg hh,if_neg (by rw[hb];simp)]
theorem qN (s:ByteArray)(i b:Nat)(w:World)(hA:At2 w b (.string s) (zI zL i))(hi:i<=s.size)(hs:s.size<=281474976710656) :
  Calls Tryz.prog 74 #[.pointer (some ⟨b,0,none⟩)] w fun e w'=>e = .returned (.tuple #[])/\Kept b w w'/\At2 w' b (.string s) (zI zL (i+gp false (s.data.toList.drop i):Nat)):=by
 obtain⟨l,hl⟩:∃l,l=s.data.toList:=⟨_,rfl⟩
 have hsz:s.size=l.length:=by rw[hl];simp
 have hget:Hid (∀i (h:i<s.size),s[i]=l.getD i 0):=fun i h=>by rw[hl];exact bS s i h
 have KR:=zH (fun (j:Nat) (w:World) (hA:At2 w b (.string s) (zI zL j)) (hj:j<=s.size)=>uE 87 lin wY s j b w hA hj hs)
 rw[<-hl] at KR |-
 obtain⟨G,hG⟩:∃G,G=i+gp false (l.drop i):=⟨_,rfl⟩
 rw[<-hG]
 have HG:=zH hG
 have HA:=zH hA
 clear hA hl hG
 go_enter Tryz.func74,Tryz.ntmps74
 go_wp2_with fail
 go_loopg [5] s.size (fun g _s5 wr=>∃j:Nat,j<=s.size/\s.size-j<=g/\Hid (Kept b w wr/\At2 wr b (.string s) (zI zL j)/\j+gp false (l.drop j)=G))
 case atStart=>exact⟨i,hi,zac,Kept.refl _ _,HA.out,HG.out.symm⟩
 case round =>
  obtain⟨j,hj,hjg,HI⟩:=hrel
  have c0:=HI.out.2.1.c0
  have c1:=HI.out.2.1.c1
  have f1:=HI.out.2.1.f1
  have hbw:=HI.out.2.1.lt
  by_cases hlt:j<s.size
  ·have hltz:(j:Int)<(s.size:Int):=by omega
   have hjl:j<l.length:=zac
   have hc:=hget.out j hlt
   by_cases h32:s[j].toNat=32
   ·have hB:Hid (blk (l.getD j 0)=true):=by show _=true;rw[<-hc];unfold blk;simp[h32]
    have HG2:Hid (j+1+gp false (l.drop (j+1))=G):=zbx
    have e32:((s[j].toNat:Int)==32)=true:=zai
    have hwr:wrap64 ((j:Int)+1)=((j+1:Nat):Int):=by unfold wrap64;omega
    clear hB hc h32
    exact EI
   by_cases h9:s[j].toNat=9
   ·have hB:Hid (blk (l.getD j 0)=true):=by show _=true;rw[<-hc];unfold blk;simp[h9]
    have HG2:Hid (j+1+gp false (l.drop (j+1))=G):=zbx
    have e32:((s[j].toNat:Int)==32)=false:=zai
    have e9:((s[j].toNat:Int)==9)=true:=zai
    have hwr:wrap64 ((j:Int)+1)=((j+1:Nat):Int):=by unfold wrap64;omega
    clear hB hc h9
    exact EI
   by_cases h10:s[j].toNat=10
   ·have hB:Hid (blk (l.getD j 0)=true):=by show _=true;rw[<-hc];unfold blk;simp[h10]
    have HG2:Hid (j+1+gp false (l.drop (j+1))=G):=zbx
    have e32:((s[j].toNat:Int)==32)=false:=zai
    have e9:((s[j].toNat:Int)==9)=false:=zai
    have e10:((s[j].toNat:Int)==10)=true:=zai
    have hwr:wrap64 ((j:Int)+1)=((j+1:Nat):Int):=by unfold wrap64;omega
    clear hB hc h10
    exact EI
   by_cases h13:s[j].toNat=13
   ·have hB:Hid (blk (l.getD j 0)=true):=by show _=true;rw[<-hc];unfold blk;simp[h13]
    have HG2:Hid (j+1+gp false (l.drop (j+1))=G):=zbx
    have e32:((s[j].toNat:Int)==32)=false:=zai
    have e9:((s[j].toNat:Int)==9)=false:=zai
    have e10:((s[j].toNat:Int)==10)=false:=zai
    have e13:((s[j].toNat:Int)==13)=true:=zai
    have hwr:wrap64 ((j:Int)+1)=((j+1:Nat):Int):=by unfold wrap64;omega
    clear hB hc h13
    exact EI
   have e0:blk (l.getD j 0)=false:=by rw[<-hc];unfold blk;simp[h32,h9,h10,h13]
   have e32:((s[j].toNat:Int)==32)=false:=zai
   have e9:((s[j].toNat:Int)==9)=false:=zai
   have e10:((s[j].toNat:Int)==10)=false:=zai
   have e13:((s[j].toNat:Int)==13)=false:=zai
   by_cases h35:s[j].toNat=35
   ·have e35:((s[j].toNat:Int)==35)=true:=by simp;omega
    obtain⟨g1,g2⟩:=BK hjl (by rw[<-hc];exact h35)
    have KK:=zH (fun w h=>KR.out j w h hj)
    have hm:((l.drop j).takeWhile lin).length<=l.length-j:=by have:=bG (p:=lin) (l.drop j);rwa [List.length_drop] at this
    obtain⟨m,hm0⟩:∃m,m=((l.drop j).takeWhile lin).length:=⟨_,rfl⟩
    obtain⟨r,hr0⟩:∃r,r=(l.drop j).takeWhile lin:=⟨_,rfl⟩
    rw[<-hr0] at KK g1 g2 hm hm0
    have hrs:(bs r).size=m:=by rw[aP,hm0]
    rw[<-hm0] at g1 g2 hm
    have HG2:Hid (j+m+gp false (l.drop (j+m))=G):=by have:=HI.out.2.2;rw[g1] at this;show _=_;omega
    clear g1 hm0 hr0 hc h35 e0
    go_wp2_with fail
    go_quiet (fail)
    go_wp2_with fail
    go_quiet (fail)
    go_wp2_with fail
    go_region_with (go_at_call 86;refine(KK.out _ (HI.out.2.1.bel (by repeat' (first|(with_reducible refine Below.setCell ?_ ?_ _)|(with_reducible refine Below.alloc ?_ ?_ _)|(with_reducible refine Below.drew ?_)|(with_reducible refine below_drewN ?_ _)|(with_reducible exact Below.refl _ _)|omega|(simp;done)|(simp;omega))))).mono ?_;rintro _ _ ⟨rfl,n,rfl⟩)
    all_goals
     rw[show IntKind.i64.wrap ((j:Int)+(m:Int))=((j+m:Nat):Int) by rw[IntKind.wrap_i64];omega]
     go_wp2_with fail
     go_roundg (s.size-(j+m))
     case measure=>omega
     case rel=>exact⟨j+m,zac,zac,(HI.out.1.bel (below_drewN (Below.refl _ _) _)).setCell 1 none _,(HI.out.2.1.bel (below_drewN (Below.refl _ _) _)).set _,HG2.out⟩
   ·have e35:((s[j].toNat:Int)==35)=false:=by simp;omega
    have HG2:Hid (j=G):=by have:=HI.out.2.2;rw[ww hjl e0 (by rw[<-hc];exact h35)] at this;exact this
    clear e0 hc
    go_wp2_with fail
    go_quiet (fail)
    go_wp2_with fail
    go_quiet (fail)
    go_wp2_with fail
    refine bodyPost_ret (v:= .tuple #[]) (results_none rfl _ _ _) rfl ⟨rfl,?_,?_⟩
    ·exact HI.out.1.bel (below_drewN (Below.refl _ _) _)
    ·rw[<-HG2.out];exact HI.out.2.1.bel (below_drewN (Below.refl _ _) _)
  ·have hltz:¬(j:Int)<(s.size:Int):=by omega
   have HG2:Hid (j=G):=by have:=HI.out.2.2;rw[List.drop_eq_nil_of_le zac] at this;exact this
   go_wp2_with fail
   go_quiet (fail)
   go_wp2_with fail
   go_end0
   exact⟨rfl,HI.out.1.bel (below_drewN (Below.refl _ _) _),by rw[<-HG2.out];exact HI.out.2.1.bel (below_drewN (Below.refl _ _) _)⟩
end Go.Proofs.YtnjfolljbfkojaaGreatDoor
namespace Go.Proofs.YtnjfolljbfkojaaGreatDoor
open Go.Value renaming int→zI
open Go.IntKind renaming i64→zL
open Go.Lib renaming hid→zH
open Go.RowKit
section
variable {P:Program} {md:Region.Mode} {Q:Exit->Act->World->Prop} {S:World->Prop}
theorem tk16 {o0 o1 o2 o3 o4 o5 o6 o7 o8 o9 o10 o11 o12 o13 o14 o15 o16:Oper}{r:List Oper}{v:Value}{fuel:Nat}{listed:Array Bool}{a:Act}{w:World}(hs:Region.noSelect (List.toArray (o0::o1::o2::o3::o4::o5::o6::o7::o8::o9::o10::o11::o12::o13::o14::o15::o16::r))=true)(hf:Region.free md (List.toArray (o0::o1::o2::o3::o4::o5::o6::o7::o8::o9::o10::o11::o12::o13::o14::o15::o16::r)) listed 16=true)
  (hr:(Region.ready md (List.toArray (o0::o1::o2::o3::o4::o5::o6::o7::o8::o9::o10::o11::o12::o13::o14::o15::o16::r)) listed).contains 16=true)(hQ:∀c a w,Q (.panic c) (a.put o16.dst v) w->Q (.panic c) a w)(hy:YieldsIf P (List.toArray (o0::o1::o2::o3::o4::o5::o6::o7::o8::o9::o10::o11::o12::o13::o14::o15::o16::r)) S o16 v a)(hS:S w)
  (h:wpAnyH P md (List.toArray (o0::o1::o2::o3::o4::o5::o6::o7::o8::o9::o10::o11::o12::o13::o14::o15::o16::r)) Q S fuel (listed.setIfInBounds 16 true) (a.put o16.dst v) w):wpAnyH P md (List.toArray (o0::o1::o2::o3::o4::o5::o6::o7::o8::o9::o10::o11::o12::o13::o14::o15::o16::r)) Q S (fuel+1) listed a w:=wpAnyH_take (i:=16) rfl hs hf hr hQ hy hS h
theorem tk17 {o0 o1 o2 o3 o4 o5 o6 o7 o8 o9 o10 o11 o12 o13 o14 o15 o16 o17:Oper}{r:List Oper}{v:Value}{fuel:Nat}{listed:Array Bool}{a:Act}{w:World}(hs:Region.noSelect (List.toArray (o0::o1::o2::o3::o4::o5::o6::o7::o8::o9::o10::o11::o12::o13::o14::o15::o16::o17::r))=true)(hf:Region.free md (List.toArray (o0::o1::o2::o3::o4::o5::o6::o7::o8::o9::o10::o11::o12::o13::o14::o15::o16::o17::r)) listed 17=true)
  (hr:(Region.ready md (List.toArray (o0::o1::o2::o3::o4::o5::o6::o7::o8::o9::o10::o11::o12::o13::o14::o15::o16::o17::r)) listed).contains 17=true)(hQ:∀c a w,Q (.panic c) (a.put o17.dst v) w->Q (.panic c) a w)(hy:YieldsIf P (List.toArray (o0::o1::o2::o3::o4::o5::o6::o7::o8::o9::o10::o11::o12::o13::o14::o15::o16::o17::r)) S o17 v a)(hS:S w)
  (h:wpAnyH P md (List.toArray (o0::o1::o2::o3::o4::o5::o6::o7::o8::o9::o10::o11::o12::o13::o14::o15::o16::o17::r)) Q S fuel (listed.setIfInBounds 17 true) (a.put o17.dst v) w):wpAnyH P md (List.toArray (o0::o1::o2::o3::o4::o5::o6::o7::o8::o9::o10::o11::o12::o13::o14::o15::o16::o17::r)) Q S (fuel+1) listed a w:=wpAnyH_take (i:=17) rfl hs hf hr hQ hy hS h
theorem tk18 {o0 o1 o2 o3 o4 o5 o6 o7 o8 o9 o10 o11 o12 o13 o14 o15 o16 o17 o18:Oper}{r:List Oper}{v:Value}{fuel:Nat}{listed:Array Bool}{a:Act}{w:World}(hs:Region.noSelect (List.toArray (o0::o1::o2::o3::o4::o5::o6::o7::o8::o9::o10::o11::o12::o13::o14::o15::o16::o17::o18::r))=true)(hf:Region.free md (List.toArray (o0::o1::o2::o3::o4::o5::o6::o7::o8::o9::o10::o11::o12::o13::o14::o15::o16::o17::o18::r)) listed 18=true)
  (hr:(Region.ready md (List.toArray (o0::o1::o2::o3::o4::o5::o6::o7::o8::o9::o10::o11::o12::o13::o14::o15::o16::o17::o18::r)) listed).contains 18=true)(hQ:∀c a w,Q (.panic c) (a.put o18.dst v) w->Q (.panic c) a w)(hy:YieldsIf P (List.toArray (o0::o1::o2::o3::o4::o5::o6::o7::o8::o9::o10::o11::o12::o13::o14::o15::o16::o17::o18::r)) S o18 v a)(hS:S w)
  (h:wpAnyH P md (List.toArray (o0::o1::o2::o3::o4::o5::o6::o7::o8::o9::o10::o11::o12::o13::o14::o15::o16::o17::o18::r)) Q S fuel (listed.setIfInBounds 18 true) (a.put o18.dst v) w):wpAnyH P md (List.toArray (o0::o1::o2::o3::o4::o5::o6::o7::o8::o9::o10::o11::o12::o13::o14::o15::o16::o17::o18::r)) Q S (fuel+1) listed a w:=wpAnyH_take (i:=18) rfl hs hf hr hQ hy hS h
theorem tk19 {o0 o1 o2 o3 o4 o5 o6 o7 o8 o9 o10 o11 o12 o13 o14 o15 o16 o17 o18 o19:Oper}{r:List Oper}{v:Value}{fuel:Nat}{listed:Array Bool}{a:Act}{w:World}(hs:Region.noSelect (List.toArray (o0::o1::o2::o3::o4::o5::o6::o7::o8::o9::o10::o11::o12::o13::o14::o15::o16::o17::o18::o19::r))=true)(hf:Region.free md (List.toArray (o0::o1::o2::o3::o4::o5::o6::o7::o8::o9::o10::o11::o12::o13::o14::o15::o16::o17::o18::o19::r)) listed 19=true)
  (hr:(Region.ready md (List.toArray (o0::o1::o2::o3::o4::o5::o6::o7::o8::o9::o10::o11::o12::o13::o14::o15::o16::o17::o18::o19::r)) listed).contains 19=true)(hQ:∀c a w,Q (.panic c) (a.put o19.dst v) w->Q (.panic c) a w)(hy:YieldsIf P (List.toArray (o0::o1::o2::o3::o4::o5::o6::o7::o8::o9::o10::o11::o12::o13::o14::o15::o16::o17::o18::o19::r)) S o19 v a)(hS:S w)
  (h:wpAnyH P md (List.toArray (o0::o1::o2::o3::o4::o5::o6::o7::o8::o9::o10::o11::o12::o13::o14::o15::o16::o17::o18::o19::r)) Q S fuel (listed.setIfInBounds 19 true) (a.put o19.dst v) w):wpAnyH P md (List.toArray (o0::o1::o2::o3::o4::o5::o6::o7::o8::o9::o10::o11::o12::o13::o14::o15::o16::o17::o18::o19::r)) Q S (fuel+1) listed a w:=wpAnyH_take (i:=19) rfl hs hf hr hQ hy hS h
theorem st20 {o0 o1 o2 o3 o4 o5 o6 o7 o8 o9 o10 o11 o12 o13 o14 o15 o16 o17 o18 o19 o20:Oper}{r:List Oper}{fuel:Nat}{listed:Array Bool}{a:Act}{w:World}{rs:List Nat}
  (h:∀K':Act->World->Prop,Shut (∀a w,S w->(S w->wpAnyH P md (List.toArray (o0::o1::o2::o3::o4::o5::o6::o7::o8::o9::o10::o11::o12::o13::o14::o15::o16::o17::o18::o19::o20::r)) Q S fuel (listed.setIfInBounds 20 true) a w)->K' a w)->if Region.wanted o20 (yielded (List.toArray (o0::o1::o2::o3::o4::o5::o6::o7::o8::o9::o10::o11::o12::o13::o14::o15::o16::o17::o18::o19::o20::r)) a.tmps)=true then Oper.wp P o20 a w K' Q else K' (a.put o20.dst undef) w)
  (hs:AllReadyH P md (List.toArray (o0::o1::o2::o3::o4::o5::o6::o7::o8::o9::o10::o11::o12::o13::o14::o15::o16::o17::o18::o19::o20::r)) Q S fuel listed a w rs):AllReadyH P md (List.toArray (o0::o1::o2::o3::o4::o5::o6::o7::o8::o9::o10::o11::o12::o13::o14::o15::o16::o17::o18::o19::o20::r)) Q S fuel listed a w (20::rs):=AllReadyH.cons (i:=20) rfl h hs
theorem st21 {o0 o1 o2 o3 o4 o5 o6 o7 o8 o9 o10 o11 o12 o13 o14 o15 o16 o17 o18 o19 o20 o21:Oper}{r:List Oper}{fuel:Nat}{listed:Array Bool}{a:Act}{w:World}{rs:List Nat}
  (h:∀K':Act->World->Prop,Shut (∀a w,S w->(S w->wpAnyH P md (List.toArray (o0::o1::o2::o3::o4::o5::o6::o7::o8::o9::o10::o11::o12::o13::o14::o15::o16::o17::o18::o19::o20::o21::r)) Q S fuel (listed.setIfInBounds 21 true) a w)->K' a w)->if Region.wanted o21 (yielded (List.toArray (o0::o1::o2::o3::o4::o5::o6::o7::o8::o9::o10::o11::o12::o13::o14::o15::o16::o17::o18::o19::o20::o21::r)) a.tmps)=true then Oper.wp P o21 a w K' Q else K' (a.put o21.dst undef) w)
  (hs:AllReadyH P md (List.toArray (o0::o1::o2::o3::o4::o5::o6::o7::o8::o9::o10::o11::o12::o13::o14::o15::o16::o17::o18::o19::o20::o21::r)) Q S fuel listed a w rs):AllReadyH P md (List.toArray (o0::o1::o2::o3::o4::o5::o6::o7::o8::o9::o10::o11::o12::o13::o14::o15::o16::o17::o18::o19::o20::o21::r)) Q S fuel listed a w (21::rs):=AllReadyH.cons (i:=21) rfl h hs
theorem tk22 {o0 o1 o2 o3 o4 o5 o6 o7 o8 o9 o10 o11 o12 o13 o14 o15 o16 o17 o18 o19 o20 o21 o22:Oper}{r:List Oper}{v:Value}{fuel:Nat}{listed:Array Bool}{a:Act}{w:World}(hs:Region.noSelect (List.toArray (o0::o1::o2::o3::o4::o5::o6::o7::o8::o9::o10::o11::o12::o13::o14::o15::o16::o17::o18::o19::o20::o21::o22::r))=true)(hf:Region.free md (List.toArray (o0::o1::o2::o3::o4::o5::o6::o7::o8::o9::o10::o11::o12::o13::o14::o15::o16::o17::o18::o19::o20::o21::o22::r)) listed 22=true)
  (hr:(Region.ready md (List.toArray (o0::o1::o2::o3::o4::o5::o6::o7::o8::o9::o10::o11::o12::o13::o14::o15::o16::o17::o18::o19::o20::o21::o22::r)) listed).contains 22=true)(hQ:∀c a w,Q (.panic c) (a.put o22.dst v) w->Q (.panic c) a w)(hy:YieldsIf P (List.toArray (o0::o1::o2::o3::o4::o5::o6::o7::o8::o9::o10::o11::o12::o13::o14::o15::o16::o17::o18::o19::o20::o21::o22::r)) S o22 v a)(hS:S w)
  (h:wpAnyH P md (List.toArray (o0::o1::o2::o3::o4::o5::o6::o7::o8::o9::o10::o11::o12::o13::o14::o15::o16::o17::o18::o19::o20::o21::o22::r)) Q S fuel (listed.setIfInBounds 22 true) (a.put o22.dst v) w):wpAnyH P md (List.toArray (o0::o1::o2::o3::o4::o5::o6::o7::o8::o9::o10::o11::o12::o13::o14::o15::o16::o17::o18::o19::o20::o21::o22::r)) Q S (fuel+1) listed a w:=wpAnyH_take (i:=22) rfl hs hf hr hQ hy hS h
theorem tk23 {o0 o1 o2 o3 o4 o5 o6 o7 o8 o9 o10 o11 o12 o13 o14 o15 o16 o17 o18 o19 o20 o21 o22 o23:Oper}{r:List Oper}{v:Value}{fuel:Nat}{listed:Array Bool}{a:Act}{w:World}(hs:Region.noSelect (List.toArray (o0::o1::o2::o3::o4::o5::o6::o7::o8::o9::o10::o11::o12::o13::o14::o15::o16::o17::o18::o19::o20::o21::o22::o23::r))=true)(hf:Region.free md (List.toArray (o0::o1::o2::o3::o4::o5::o6::o7::o8::o9::o10::o11::o12::o13::o14::o15::o16::o17::o18::o19::o20::o21::o22::o23::r)) listed 23=true)
  (hr:(Region.ready md (List.toArray (o0::o1::o2::o3::o4::o5::o6::o7::o8::o9::o10::o11::o12::o13::o14::o15::o16::o17::o18::o19::o20::o21::o22::o23::r)) listed).contains 23=true)(hQ:∀c a w,Q (.panic c) (a.put o23.dst v) w->Q (.panic c) a w)(hy:YieldsIf P (List.toArray (o0::o1::o2::o3::o4::o5::o6::o7::o8::o9::o10::o11::o12::o13::o14::o15::o16::o17::o18::o19::o20::o21::o22::o23::r)) S o23 v a)(hS:S w)
  (h:wpAnyH P md (List.toArray (o0::o1::o2::o3::o4::o5::o6::o7::o8::o9::o10::o11::o12::o13::o14::o15::o16::o17::o18::o19::o20::o21::o22::o23::r)) Q S fuel (listed.setIfInBounds 23 true) (a.put o23.dst v) w):wpAnyH P md (List.toArray (o0::o1::o2::o3::o4::o5::o6::o7::o8::o9::o10::o11::o12::o13::o14::o15::o16::o17::o18::o19::o20::o21::o22::o23::r)) Q S (fuel+1) listed a w:=wpAnyH_take (i:=23) rfl hs hf hr hQ hy hS h
theorem tk24 {o0 o1 o2 o3 o4 o5 o6 o7 o8 o9 o10 o11 o12 o13 o14 o15 o16 o17 o18 o19 o20 o21 o22 o23 o24:Oper}{r:List Oper}{v:Value}{fuel:Nat}{listed:Array Bool}{a:Act}{w:World}(hs:Region.noSelect (List.toArray (o0::o1::o2::o3::o4::o5::o6::o7::o8::o9::o10::o11::o12::o13::o14::o15::o16::o17::o18::o19::o20::o21::o22::o23::o24::r))=true)(hf:Region.free md (List.toArray (o0::o1::o2::o3::o4::o5::o6::o7::o8::o9::o10::o11::o12::o13::o14::o15::o16::o17::o18::o19::o20::o21::o22::o23::o24::r)) listed 24=true)
  (hr:(Region.ready md (List.toArray (o0::o1::o2::o3::o4::o5::o6::o7::o8::o9::o10::o11::o12::o13::o14::o15::o16::o17::o18::o19::o20::o21::o22::o23::o24::r)) listed).contains 24=true)(hQ:∀c a w,Q (.panic c) (a.put o24.dst v) w->Q (.panic c) a w)(hy:YieldsIf P (List.toArray (o0::o1::o2::o3::o4::o5::o6::o7::o8::o9::o10::o11::o12::o13::o14::o15::o16::o17::o18::o19::o20::o21::o22::o23::o24::r)) S o24 v a)(hS:S w)
  (h:wpAnyH P md (List.toArray (o0::o1::o2::o3::o4::o5::o6::o7::o8::o9::o10::o11::o12::o13::o14::o15::o16::o17::o18::o19::o20::o21::o22::o23::o24::r)) Q S fuel (listed.setIfInBounds 24 true) (a.put o24.dst v) w):wpAnyH P md (List.toArray (o0::o1::o2::o3::o4::o5::o6::o7::o8::o9::o10::o11::o12::o13::o14::o15::o16::o17::o18::o19::o20::o21::o22::o23::o24::r)) Q S (fuel+1) listed a w:=wpAnyH_take (i:=24) rfl hs hf hr hQ hy hS h
theorem tk25 {o0 o1 o2 o3 o4 o5 o6 o7 o8 o9 o10 o11 o12 o13 o14 o15 o16 o17 o18 o19 o20 o21 o22 o23 o24 o25:Oper}{r:List Oper}{v:Value}{fuel:Nat}{listed:Array Bool}{a:Act}{w:World}(hs:Region.noSelect (List.toArray (o0::o1::o2::o3::o4::o5::o6::o7::o8::o9::o10::o11::o12::o13::o14::o15::o16::o17::o18::o19::o20::o21::o22::o23::o24::o25::r))=true)(hf:Region.free md (List.toArray (o0::o1::o2::o3::o4::o5::o6::o7::o8::o9::o10::o11::o12::o13::o14::o15::o16::o17::o18::o19::o20::o21::o22::o23::o24::o25::r)) listed 25=true)
  (hr:(Region.ready md (List.toArray (o0::o1::o2::o3::o4::o5::o6::o7::o8::o9::o10::o11::o12::o13::o14::o15::o16::o17::o18::o19::o20::o21::o22::o23::o24::o25::r)) listed).contains 25=true)(hQ:∀c a w,Q (.panic c) (a.put o25.dst v) w->Q (.panic c) a w)(hy:YieldsIf P (List.toArray (o0::o1::o2::o3::o4::o5::o6::o7::o8::o9::o10::o11::o12::o13::o14::o15::o16::o17::o18::o19::o20::o21::o22::o23::o24::o25::r)) S o25 v a)(hS:S w)
  (h:wpAnyH P md (List.toArray (o0::o1::o2::o3::o4::o5::o6::o7::o8::o9::o10::o11::o12::o13::o14::o15::o16::o17::o18::o19::o20::o21::o22::o23::o24::o25::r)) Q S fuel (listed.setIfInBounds 25 true) (a.put o25.dst v) w):wpAnyH P md (List.toArray (o0::o1::o2::o3::o4::o5::o6::o7::o8::o9::o10::o11::o12::o13::o14::o15::o16::o17::o18::o19::o20::o21::o22::o23::o24::o25::r)) Q S (fuel+1) listed a w:=wpAnyH_take (i:=25) rfl hs hf hr hQ hy hS h
theorem st26 {o0 o1 o2 o3 o4 o5 o6 o7 o8 o9 o10 o11 o12 o13 o14 o15 o16 o17 o18 o19 o20 o21 o22 o23 o24 o25 o26:Oper}{r:List Oper}{fuel:Nat}{listed:Array Bool}{a:Act}{w:World}{rs:List Nat}
  (h:∀K':Act->World->Prop,Shut (∀a w,S w->(S w->wpAnyH P md (List.toArray (o0::o1::o2::o3::o4::o5::o6::o7::o8::o9::o10::o11::o12::o13::o14::o15::o16::o17::o18::o19::o20::o21::o22::o23::o24::o25::o26::r)) Q S fuel (listed.setIfInBounds 26 true) a w)->K' a w)->if Region.wanted o26 (yielded (List.toArray (o0::o1::o2::o3::o4::o5::o6::o7::o8::o9::o10::o11::o12::o13::o14::o15::o16::o17::o18::o19::o20::o21::o22::o23::o24::o25::o26::r)) a.tmps)=true then Oper.wp P o26 a w K' Q else K' (a.put o26.dst undef) w)
  (hs:AllReadyH P md (List.toArray (o0::o1::o2::o3::o4::o5::o6::o7::o8::o9::o10::o11::o12::o13::o14::o15::o16::o17::o18::o19::o20::o21::o22::o23::o24::o25::o26::r)) Q S fuel listed a w rs):AllReadyH P md (List.toArray (o0::o1::o2::o3::o4::o5::o6::o7::o8::o9::o10::o11::o12::o13::o14::o15::o16::o17::o18::o19::o20::o21::o22::o23::o24::o25::o26::r)) Q S fuel listed a w (26::rs):=AllReadyH.cons (i:=26) rfl h hs
theorem st27 {o0 o1 o2 o3 o4 o5 o6 o7 o8 o9 o10 o11 o12 o13 o14 o15 o16 o17 o18 o19 o20 o21 o22 o23 o24 o25 o26 o27:Oper}{r:List Oper}{fuel:Nat}{listed:Array Bool}{a:Act}{w:World}{rs:List Nat}
  (h:∀K':Act->World->Prop,Shut (∀a w,S w->(S w->wpAnyH P md (List.toArray (o0::o1::o2::o3::o4::o5::o6::o7::o8::o9::o10::o11::o12::o13::o14::o15::o16::o17::o18::o19::o20::o21::o22::o23::o24::o25::o26::o27::r)) Q S fuel (listed.setIfInBounds 27 true) a w)->K' a w)->if Region.wanted o27 (yielded (List.toArray (o0::o1::o2::o3::o4::o5::o6::o7::o8::o9::o10::o11::o12::o13::o14::o15::o16::o17::o18::o19::o20::o21::o22::o23::o24::o25::o26::o27::r)) a.tmps)=true then Oper.wp P o27 a w K' Q else K' (a.put o27.dst undef) w)
  (hs:AllReadyH P md (List.toArray (o0::o1::o2::o3::o4::o5::o6::o7::o8::o9::o10::o11::o12::o13::o14::o15::o16::o17::o18::o19::o20::o21::o22::o23::o24::o25::o26::o27::r)) Q S fuel listed a w rs):AllReadyH P md (List.toArray (o0::o1::o2::o3::o4::o5::o6::o7::o8::o9::o10::o11::o12::o13::o14::o15::o16::o17::o18::o19::o20::o21::o22::o23::o24::o25::o26::o27::r)) Q S fuel listed a w (27::rs):=AllReadyH.cons (i:=27) rfl h hs
theorem tk28 {o0 o1 o2 o3 o4 o5 o6 o7 o8 o9 o10 o11 o12 o13 o14 o15 o16 o17 o18 o19 o20 o21 o22 o23 o24 o25 o26 o27 o28:Oper}{r:List Oper}{v:Value}{fuel:Nat}{listed:Array Bool}{a:Act}{w:World}(hs:Region.noSelect (List.toArray (o0::o1::o2::o3::o4::o5::o6::o7::o8::o9::o10::o11::o12::o13::o14::o15::o16::o17::o18::o19::o20::o21::o22::o23::o24::o25::o26::o27::o28::r))=true)(hf:Region.free md (List.toArray (o0::o1::o2::o3::o4::o5::o6::o7::o8::o9::o10::o11::o12::o13::o14::o15::o16::o17::o18::o19::o20::o21::o22::o23::o24::o25::o26::o27::o28::r)) listed 28=true)
  (hr:(Region.ready md (List.toArray (o0::o1::o2::o3::o4::o5::o6::o7::o8::o9::o10::o11::o12::o13::o14::o15::o16::o17::o18::o19::o20::o21::o22::o23::o24::o25::o26::o27::o28::r)) listed).contains 28=true)(hQ:∀c a w,Q (.panic c) (a.put o28.dst v) w->Q (.panic c) a w)(hy:YieldsIf P (List.toArray (o0::o1::o2::o3::o4::o5::o6::o7::o8::o9::o10::o11::o12::o13::o14::o15::o16::o17::o18::o19::o20::o21::o22::o23::o24::o25::o26::o27::o28::r)) S o28 v a)(hS:S w)
  (h:wpAnyH P md (List.toArray (o0::o1::o2::o3::o4::o5::o6::o7::o8::o9::o10::o11::o12::o13::o14::o15::o16::o17::o18::o19::o20::o21::o22::o23::o24::o25::o26::o27::o28::r)) Q S fuel (listed.setIfInBounds 28 true) (a.put o28.dst v) w):wpAnyH P md (List.toArray (o0::o1::o2::o3::o4::o5::o6::o7::o8::o9::o10::o11::o12::o13::o14::o15::o16::o17::o18::o19::o20::o21::o22::o23::o24::o25::o26::o27::o28::r)) Q S (fuel+1) listed a w:=wpAnyH_take (i:=28) rfl hs hf hr hQ hy hS h
theorem tk29 {o0 o1 o2 o3 o4 o5 o6 o7 o8 o9 o10 o11 o12 o13 o14 o15 o16 o17 o18 o19 o20 o21 o22 o23 o24 o25 o26 o27 o28 o29:Oper}{r:List Oper}{v:Value}{fuel:Nat}{listed:Array Bool}{a:Act}{w:World}(hs:Region.noSelect (List.toArray (o0::o1::o2::o3::o4::o5::o6::o7::o8::o9::o10::o11::o12::o13::o14::o15::o16::o17::o18::o19::o20::o21::o22::o23::o24::o25::o26::o27::o28::o29::r))=true)(hf:Region.free md (List.toArray (o0::o1::o2::o3::o4::o5::o6::o7::o8::o9::o10::o11::o12::o13::o14::o15::o16::o17::o18::o19::o20::o21::o22::o23::o24::o25::o26::o27::o28::o29::r)) listed 29=true)
  (hr:(Region.ready md (List.toArray (o0::o1::o2::o3::o4::o5::o6::o7::o8::o9::o10::o11::o12::o13::o14::o15::o16::o17::o18::o19::o20::o21::o22::o23::o24::o25::o26::o27::o28::o29::r)) listed).contains 29=true)(hQ:∀c a w,Q (.panic c) (a.put o29.dst v) w->Q (.panic c) a w)(hy:YieldsIf P (List.toArray (o0::o1::o2::o3::o4::o5::o6::o7::o8::o9::o10::o11::o12::o13::o14::o15::o16::o17::o18::o19::o20::o21::o22::o23::o24::o25::o26::o27::o28::o29::r)) S o29 v a)(hS:S w)
  (h:wpAnyH P md (List.toArray (o0::o1::o2::o3::o4::o5::o6::o7::o8::o9::o10::o11::o12::o13::o14::o15::o16::o17::o18::o19::o20::o21::o22::o23::o24::o25::o26::o27::o28::o29::r)) Q S fuel (listed.setIfInBounds 29 true) (a.put o29.dst v) w):wpAnyH P md (List.toArray (o0::o1::o2::o3::o4::o5::o6::o7::o8::o9::o10::o11::o12::o13::o14::o15::o16::o17::o18::o19::o20::o21::o22::o23::o24::o25::o26::o27::o28::o29::r)) Q S (fuel+1) listed a w:=wpAnyH_take (i:=29) rfl hs hf hr hQ hy hS h
end
end Go.Proofs.YtnjfolljbfkojaaGreatDoor
namespace Go.Proofs.YtnjfolljbfkojaaGreatDoor
open Go.Value renaming int→zI
open Go.IntKind renaming i64→zL
open Go.Lib renaming hid→zH
open Go.RowKit Lx Pa
theorem zt (ts:List Tok)(p:Option Addr)(b off cap n k En:Nat)(E O:Int)(w:World)(hS:SlT w p b off n ts)(hk:k<=n)(k2 E2 O2:Int)(tt:Option Tree)
  (KX:∀w1,SlT w1 p b off n ts->Calls Tryz.prog 71 #[.agg #[.slice p n cap,zI zL k,zI zL En,zI zL E,zI zL O]] w1 fun e w'=>bO w1 ts p n cap En k2 E2 O2 tt e w') :
  Calls Tryz.prog 51 #[.agg #[.slice p n cap,zI zL k,zI zL En,zI zL E,zI zL O],zI zL 6] w fun e w'=>bO w ts p n cap En k2 E2 O2 tt e w':=by
 have KO:=zH (fun w hS=>aj ts p b off cap n k En E O w hS hk)
 have HX:=zH KX
 have HS:=zH hS
 generalize ag ts En (n-k)=at0 at *
 clear hS KX
 obtain⟨W3,hW3⟩:∃W3,W3=((w.alloc (.cells #[.slice p n cap,zI zL k,zI zL En,zI zL E,zI zL O] 62)).alloc (.cells #[zI zL 0,zI zL 0,.string ⟨#[]⟩,zI zL 0,zI zL 0,.bool false,zI zL 0,zI zL 0,zI zL 0,.slice none 0 0] 36)).alloc (.cells #[.slice none 0 0,zI zL 0,zI zL 0,zI zL 0,zI zL 0] 62):=⟨_,rfl⟩
 have F:=zH (Fr.new w p n cap k En E O 62 36)
 rw[<-hW3] at F
 go_enter Tryz.func51,Tryz.ntmps51
 go_wp2_with fail
 rw[<-hW3]
 clear hW3
 refine(KO.out _ (HS.out.bel F.out.B)).mono ?_
 rintro _ v1 ⟨rfl,hb⟩
 replace F:=zH (F.out.bel hb)
 clear hb
 obtain⟨c0,c1,c2,c3,c4,f0,f1,f2,f3,f4⟩:=F.out.A
 go_wp2_with fail
 have hV:=World.block_lt_of_cell? _ _ F.out.R.c0
 have HF:=zH (fun (u:World) (h:RowKit.Below v1.heap.size v1 u)=>F.out.bel h)
 refine(HX.out _ (HS.out.bel F.out.B)).mono ?_
 rintro _ v ⟨⟨xo,xa,xs,xn,xd,xf,xm,xr,xy,xq,xk,xc⟩,rfl,hn,hb⟩
 have HN:=zH hn
 have F2:=zH (HF.out _ hb)
 clear hb hn HF F c0 c1 c2 c3 c4 f0 f1 f2 f3 f4
 obtain⟨n0,n1,n2,n3,n4,n5,n6,n7,n8,n9,m0,m1,m2,m3,m4,m5,m6,m7,m8,m9⟩:=F2.out.N
 obtain⟨e0,e1,e2,e3,e4,g0,g1,g2,g3,g4⟩:=F2.out.R
 have BV:=zH F2.out.B
 go_wp2_with fail
 refine bodyPost_ret (v:= .tuple #[.agg #[zI zL xo,zI zL xa,.string xs,zI zL xn,zI zL xd,.bool xf,zI zL xm,zI zL xr,zI zL xy,.slice xq xk xc],.agg #[.slice p n cap,zI zL k2,zI zL En,zI zL E2,zI zL O2]]) zbl rfl ⟨⟨xo,xa,xs,xn,xd,xf,xm,xr,xy,xq,xk,xc⟩,rfl,fun u hu=>ah.keep (lo:=v1.heap.size) ?_ zac u _ (HN.out u hu),zae⟩
 exact EA
theorem yX (ts:List Tok)(p:Option Addr)(b off cap n k En:Nat)(E O:Int)(w:World)(hS:SlT w p b off n ts)(hk:k<=n)(k2 E2 O2:Int)(tt:Option Tree)
  (hT:∀w1,SlT w1 p b off n ts->Calls Tryz.prog 20 #[.agg #[.slice p n cap,zI zL k,zI zL En,zI zL E,zI zL O],.string (bs oH)] w1 fun e w'=>e = .returned (.bool false)/\RowKit.Below w1.heap.size w1 w')
  (KX:∀w1,SlT w1 p b off n ts->Calls Tryz.prog 51 #[.agg #[.slice p n cap,zI zL k,zI zL En,zI zL E,zI zL O],zI zL 3] w1 fun e w'=>bO w1 ts p n cap En k2 E2 O2 tt e w') :
  Calls Tryz.prog 51 #[.agg #[.slice p n cap,zI zL k,zI zL En,zI zL E,zI zL O],zI zL 2] w fun e w'=>bO w ts p n cap En k2 E2 O2 tt e w':=by
 have KO:=zH (fun w hS=>aj ts p b off cap n k En E O w hS hk)
 have HT:=zH hT
 have HX:=zH KX
 have HS:=zH hS
 generalize ag ts En (n-k)=at0 at *
 clear hS KX hT
 obtain⟨W3,hW3⟩:∃W3,W3=((w.alloc (.cells #[.slice p n cap,zI zL k,zI zL En,zI zL E,zI zL O] 62)).alloc (.cells #[zI zL 0,zI zL 0,.string ⟨#[]⟩,zI zL 0,zI zL 0,.bool false,zI zL 0,zI zL 0,zI zL 0,.slice none 0 0] 36)).alloc (.cells #[.slice none 0 0,zI zL 0,zI zL 0,zI zL 0,zI zL 0] 62):=⟨_,rfl⟩
 have F:=zH (Fr.new w p n cap k En E O 62 36)
 rw[<-hW3] at F
 go_enter Tryz.func51,Tryz.ntmps51
 go_wp2_with fail
 rw[<-hW3]
 clear hW3
 refine(KO.out _ (HS.out.bel F.out.B)).mono ?_
 rintro _ v1 ⟨rfl,hb⟩
 replace F:=zH (F.out.bel hb)
 clear hb
 obtain⟨c0,c1,c2,c3,c4,f0,f1,f2,f3,f4⟩:=F.out.A
 go_wp2_with fail
 refine(HT.out _ (HS.out.bel F.out.B)).mono ?_
 rintro _ v2 ⟨rfl,hb⟩
 replace F:=zH (F.out.bel hb)
 clear c0 c1 c2 c3 c4 f0 f1 f2 f3 f4
 clear hb
 obtain⟨c0,c1,c2,c3,c4,f0,f1,f2,f3,f4⟩:=F.out.A
 go_wp2_with fail
 have hV:=World.block_lt_of_cell? _ _ F.out.R.c0
 have HF:=zH (fun (u:World) (h:RowKit.Below v2.heap.size v2 u)=>F.out.bel h)
 refine(HX.out _ (HS.out.bel F.out.B)).mono ?_
 rintro _ v ⟨⟨xo,xa,xs,xn,xd,xf,xm,xr,xy,xq,xk,xc⟩,rfl,hn,hb⟩
 have HN:=zH hn
 have F2:=zH (HF.out _ hb)
 clear hb hn HF F c0 c1 c2 c3 c4 f0 f1 f2 f3 f4
 obtain⟨n0,n1,n2,n3,n4,n5,n6,n7,n8,n9,m0,m1,m2,m3,m4,m5,m6,m7,m8,m9⟩:=F2.out.N
 obtain⟨e0,e1,e2,e3,e4,g0,g1,g2,g3,g4⟩:=F2.out.R
 have BV:=zH F2.out.B
 go_wp2_with fail
 refine bodyPost_ret (v:= .tuple #[.agg #[zI zL xo,zI zL xa,.string xs,zI zL xn,zI zL xd,.bool xf,zI zL xm,zI zL xr,zI zL xy,.slice xq xk xc],.agg #[.slice p n cap,zI zL k2,zI zL En,zI zL E2,zI zL O2]]) zbl rfl ⟨⟨xo,xa,xs,xn,xd,xf,xm,xr,xy,xq,xk,xc⟩,rfl,fun u hu=>ah.keep (lo:=v2.heap.size) ?_ zac u _ (HN.out u hu),zae⟩
 exact EA
theorem ve (ts:List Tok)(p:Option Addr)(b off cap n k En:Nat)(E O:Int)(w:World)(hS:SlT w p b off n ts)(hk:k<=n)(k2 E2 O2:Int)(tt:Option Tree)
  (hT:∀w1,SlT w1 p b off n ts->Calls Tryz.prog 20 #[.agg #[.slice p n cap,zI zL k,zI zL En,zI zL E,zI zL O],.string (bs kIf)] w1 fun e w'=>e = .returned (.bool false)/\RowKit.Below w1.heap.size w1 w')
  (KX:∀w1,SlT w1 p b off n ts->Calls Tryz.prog 51 #[.agg #[.slice p n cap,zI zL k,zI zL En,zI zL E,zI zL O],zI zL 0] w1 fun e w'=>bO w1 ts p n cap En k2 E2 O2 tt e w') :
  Calls Tryz.prog 26 #[.agg #[.slice p n cap,zI zL k,zI zL En,zI zL E,zI zL O]] w fun e w'=>bO w ts p n cap En k2 E2 O2 tt e w':=by
 have KO:=zH (fun w hS=>aj ts p b off cap n k En E O w hS hk)
 have HT:=zH hT
 have HX:=zH KX
 have HS:=zH hS
 generalize ag ts En (n-k)=at0 at *
 clear hS KX hT
 obtain⟨W3,hW3⟩:∃W3,W3=((w.alloc (.cells #[.slice p n cap,zI zL k,zI zL En,zI zL E,zI zL O] 62)).alloc (.cells #[zI zL 0,zI zL 0,.string ⟨#[]⟩,zI zL 0,zI zL 0,.bool false,zI zL 0,zI zL 0,zI zL 0,.slice none 0 0] 36)).alloc (.cells #[.slice none 0 0,zI zL 0,zI zL 0,zI zL 0,zI zL 0] 62):=⟨_,rfl⟩
 have F:=zH (Fr.new w p n cap k En E O 62 36)
 rw[<-hW3] at F
 go_enter Tryz.func26,Tryz.ntmps26
 go_wp2_with fail
 rw[<-hW3]
 clear hW3
 refine(HT.out _ (HS.out.bel F.out.B)).mono ?_
 rintro _ v1 ⟨rfl,hb⟩
 replace F:=zH (F.out.bel hb)
 clear hb
 obtain⟨c0,c1,c2,c3,c4,f0,f1,f2,f3,f4⟩:=F.out.A
 go_wp2_with fail
 have hV:=World.block_lt_of_cell? _ _ F.out.R.c0
 have HF:=zH (fun (u:World) (h:RowKit.Below v1.heap.size v1 u)=>F.out.bel h)
 refine(HX.out _ (HS.out.bel F.out.B)).mono ?_
 rintro _ v ⟨⟨xo,xa,xs,xn,xd,xf,xm,xr,xy,xq,xk,xc⟩,rfl,hn,hb⟩
 have HN:=zH hn
 have F2:=zH (HF.out _ hb)
 clear hb hn HF F c0 c1 c2 c3 c4 f0 f1 f2 f3 f4
 obtain⟨n0,n1,n2,n3,n4,n5,n6,n7,n8,n9,m0,m1,m2,m3,m4,m5,m6,m7,m8,m9⟩:=F2.out.N
 obtain⟨e0,e1,e2,e3,e4,g0,g1,g2,g3,g4⟩:=F2.out.R
 have BV:=zH F2.out.B
 go_wp2_with fail
 refine bodyPost_ret (v:= .tuple #[.agg #[zI zL xo,zI zL xa,.string xs,zI zL xn,zI zL xd,.bool xf,zI zL xm,zI zL xr,zI zL xy,.slice xq xk xc],.agg #[.slice p n cap,zI zL k2,zI zL En,zI zL E2,zI zL O2]]) (by simp[results,Tryz.results26,go_sem,n0,n1,n2,n3,n4,n5,n6,n7,n8,n9,e0,e1,e2,e3,e4]) rfl ⟨⟨xo,xa,xs,xn,xd,xf,xm,xr,xy,xq,xk,xc⟩,rfl,fun u hu=>ah.keep (lo:=v1.heap.size) ?_ zac u _ (HN.out u hu),zae⟩
 exact EA
end Go.Proofs.YtnjfolljbfkojaaGreatDoor
