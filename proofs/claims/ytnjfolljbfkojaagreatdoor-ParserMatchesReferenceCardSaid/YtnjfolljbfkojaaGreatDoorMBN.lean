import Derived.LaidMore
import Derived.OpenShut
import Derived.SizedLaws
import Derived.Lib.RowBridge
import Derived.Stop.Joined
import Derived.Stop.LaidErr
import Derived.Lib.LaidTab
import Derived.Test.YtnjfolljbfkojaaGreatDoorMBK
set_option maxRecDepth 100000
set_option maxHeartbeats 20000000
namespace Go.Proofs.YtnjfolljbfkojaaGreatDoor
open Go.Value renaming int→zI
open Go.IntKind renaming i64→zL
open Go.Lib renaming hid→zH
open Go.RowKit Lx Pa
def xN (l:List UInt8):Int:=match lex Vh l with
 | .ok ts=>(j3 ts:Nat)
 | .er _ _=>-1
theorem AZ (l:List UInt8):(byR l).es.length<=20/\(∀p∈(byR l).es,p.1≠0/\0<=bY l p.2/\bY l p.2<=l.length)/\(byR l).es.Pairwise (fun p q=>bY l p.2<bY l q.2):=by
 cases hx:lex Vh l with
 | er E a =>
  have h1:byR l=⟨[],[],[(E,0)]⟩:=by unfold byR;rw[hx]
  have h2:bY l=fun _=>(a:Int):=by unfold bY;rw[hx]
  have h3:=lm hx
  rw[h1,h2]
  refine⟨by simp,fun p hp=>?_,by simp⟩
  rw[List.mem_singleton] at hp
  subst hp
  have h4:=h3.2.1
  exact⟨h3.1,by show(0:Int)<=a;omega,by show(a:Int)<=l.length;omega⟩
 | ok ts =>
  have h1:byR l=parse M0 ts:=by unfold byR;rw[hx]
  have h2:bY l=ag ts l.length:=by unfold bY;rw[hx]
  rw[h1,h2]
  have h3:=vE (M:=M0) ts
  refine⟨h3.top,fun p hp=>?_,?_⟩
  ·refine⟨?_,AC hx p.2⟩
   rcases h3.cod p hp with e|e|e<;>rw[e]<;>decide
  ·refine h3.dec.imp_of_mem fun {p q} hp hq h=>?_
   exact Ag hx h (h3.bnd p hp)
theorem FC {l:List UInt8}(h:(byR l).es=[]):∃ts,lex Vh l = .ok ts/\byR l=parse M0 ts/\bY l=ag ts l.length/\((byR l).ds.length+(byR l).rs.length:Nat)=xN l:=by
 cases hx:lex Vh l with
 | er E a =>
  have h1:byR l=⟨[],[],[(E,0)]⟩:=by unfold byR;rw[hx]
  rw[h1] at h
  cases h
 | ok ts =>
  have h1:byR l=parse M0 ts:=by unfold byR;rw[hx]
  have h2:bY l=ag ts l.length:=by unfold bY;rw[hx]
  refine⟨ts,rfl,h1,h2,?_⟩
  rw[h1] at h
  have:=pR (M:=M0) ts h
  rw[h1,this]
  unfold xN
  rw[hx]
end Go.Proofs.YtnjfolljbfkojaaGreatDoor
namespace Go.Proofs.YtnjfolljbfkojaaGreatDoor
open Go.Value renaming int→zI
open Go.IntKind renaming i64→zL
open Go.Lib renaming hid→zH
open Go.ChangeShapes Go.WideShapes Go.ChangeAt Go.WideMaps Go.WideElems Go.RowKit Lx
theorem own:ownKnob Tryz.prog.godebug=none:=zab
def lst : List (String × DataW Unit) := [("math/bits.deBruijn32tab", Rows.laid_math_bits_deBruijn32tab), ("math/bits.deBruijn64tab", Rows.laid_math_bits_deBruijn64tab), ("internal/strconv.uint64pow10", Rows.laid_internal_strconv_uint64pow10), ("strconv.ErrRange", Rows.laid_strconv_ErrRange), ("strconv.ErrSyntax", Rows.laid_strconv_ErrSyntax)]
theorem yT (os:Os)(args:Array Value):laidMetH Tryz.prog lst ((World.doorLaid Tryz.prog 400 os).forCall (fun _ _=>0) ⟨#[],args,[]⟩).memory:=by
 rw[MakeChecks.laidMetH_plain _ _ _ zab]
 exact laidMet_of_run' 8 zab zab
end Go.Proofs.YtnjfolljbfkojaaGreatDoor
namespace Go.Proofs.YtnjfolljbfkojaaGreatDoor
open Go.Value renaming int→zI
open Go.IntKind renaming i64→zL
open Go.Lib renaming hid→zH
open Go.RowKit Lx Pa
theorem C8 {l:List UInt8}{ts:List Tok}(h:lex Vh l = .ok ts):byR l=parse M0 ts/\bY l=ag ts l.length:=by
 unfold byR bY;rw[h];exact⟨rfl,rfl⟩
theorem FN {l:List UInt8}{E:Int}{a:Nat}(h:lex Vh l = .er E a):byR l=⟨[],[],[(E,0)]⟩:=by
 unfold byR;rw[h]
theorem aT {b:Nat}{w:World}:∀(vs:List Value) (o:Nat) (v:World),Kept b w v->Kept b w (v.setCells b o vs)
 | [],_,_,h=>h
 | _::vs,o,_,h=>aT vs (o+1) _ (h.setCell o none _)
theorem aH.cells {w:World}{b:Nat}{l L:List Value}(h:aH w b l)(e:L.length=l.length):aH (w.setCells b 0 L) b L:=fun j v hv=>by
 have hj:j<L.length:=(List.getElem?_eq_some_iff.1 hv).1
 have h1:=World.cell?_setCells_in b L 0 w (fun i hi=>by
  rw[Nat.zero_add]
  exact Option.isSome_iff_exists.2 ⟨_,(h i l[i] (List.getElem?_eq_getElem zac)).1⟩) j hj
 rw[Nat.zero_add] at h1
 refine⟨h1.trans (by rw[<-hv];exact(List.getElem?_eq_getElem hj).symm),?_⟩
 rw[World.frozen?_setCells]
 exact(h j l[j] (List.getElem?_eq_getElem zac)).2
theorem dz (T n:Nat)(hi:(Tryz.prog.info? T).map (·.size)=some n)(w:World)(b:Nat)(l L:List Value)(h:aH w b l)(hl:l.length=n)(hL:L.length=n)(h1:∀u∈L,u.oneCell'=true) :
  (Instr.storeAt T (.pointer (some ⟨b,0,none⟩)) (.agg L.toArray)).run Tryz.prog w = .ok () (w.setCells b 0 L):=by
 have ht:w.there b 0 L.toArray.size:=fun j hj=>by
  rw[List.size_toArray] at hj
  have:=h j l[j] (List.getElem?_eq_getElem zac)
  rw[Nat.zero_add]
  exact⟨Option.isSome_iff_exists.2 ⟨_,this.1⟩,this.2⟩
 exact run_storeAt_mid w b 0 T L.toArray ht (by rw[hi,List.size_toArray,hL]) (by rw[List.all_toArray,List.all_eq_true];exact h1)
theorem FrL.cellsN {w v:World}{p:Option Addr}{n cap:Nat}{k En E O:Int}{Z L:List Value}(h:FrL w v p n cap k En E O Z)(hL:L.length=Z.length):FrL w (v.setCells (w.heap.size+1) 0 L) p n cap k En E O L:=by
 have hk:=aT (b:=w.heap.size+1) (w:=v) L 0 v (Kept.refl _ _)
 exact⟨h.A.kept hk zac,h.N.cells hL,h.R.kept hk zac,h.B.trans (hk.below zac h.B.size),by rw[hL];exact h.L⟩
theorem jv {P:Program}{o:Oper}{t:TypeId}{v:Value}{w w':World}{ρ:Operand->Value}{l:List (Nat×Operand)}(ho:o.op = .build t l.toArray)(hr:(Instr.build t (l.map fun (i,x)=>(i,ρ x)).toArray).run P w = .ok v w'):(execOp ρ o).run P w = .ok (.value v) w':=by
 unfold execOp
 simp only[ho,Sem.run_bind,Sem.run_pure,List.map_toArray,hr]
 rfl
theorem fw (at0 kd:Int)(w:World):(Instr.build 49 #[(8,zI zL at0),(2,zI zL kd),(4,.agg #[zI zL 0,zI zL 36525]),(6,.agg #[zI zL 17,zI zL at0,.string ⟨#[]⟩,zI zL 0,zI zL 0,.bool false,zI zL 0,zI zL 0,zI zL 0,.slice none 0 0]),(7,.agg #[zI zL 1,zI zL at0,.string ⟨#[]⟩,zI zL 0,zI zL 1,.bool false,zI zL 0,zI zL 0,zI zL 0,.slice none 0 0])]).run Tryz.prog w = .ok (.agg #[.string ⟨#[]⟩,zI zL 0,zI zL kd,.string ⟨#[]⟩,zI zL 0,zI zL 36525,zI zL 0,zI zL 17,zI zL at0,.string ⟨#[]⟩,zI zL 0,zI zL 0,.bool false,zI zL 0,zI zL 0,zI zL 0,.slice none 0 0,zI zL 1,zI zL at0,.string ⟨#[]⟩,zI zL 0,zI zL 1,.bool false,zI zL 0,zI zL 0,zI zL 0,.slice none 0 0,zI zL at0]) w:=zab
def dE (t:List Tok):Out Pa.Rule:=(mg M0 t).bind fun d r=>(need sSc r).bind fun _ r=> .ok d r
def iZ (kd pl:Nat):List Tok->Out Pa.Rule:=fun r=>(nameO r).bind fun nm r0=>(ae r0).bind fun v r1=>(aI bC nameO [] r1).bind fun act r2=>(need dK r2).bind fun _b r3=>(ae r3).bind fun fr r4=>(aI aV ae 36525 r4).bind fun un r5=>(need bf r5).bind fun _c r6=>(ae r6).bind fun kn r7=>(aI bD (af M0) (aN pl) r7).bind fun wh r8=>(aI bi (af M0) (aK pl) r8).bind fun gi r9=>(need sSc r9).bind fun _ r10=> .ok (⟨nm,v,kd,act,fr,un,kn,wh,gi,pl⟩:Pa.Rule) r10
section
variable {ts:List Tok} {En:Nat}
theorem uK (σ:Sg)(hk:σ.k<=ts.length) :
  (∃u,u<7/\σ.E=0/\σ.k<ts.length/\which kinds (ts.drop σ.k)=some u/\σ.run ts En dE=(Sg.mk (σ.k+1) 0 σ.O).run ts En (iZ (u+1) (ts.length-σ.k))/\σ.val ts dE=(Sg.mk (σ.k+1) 0 σ.O).val ts (iZ (u+1) (ts.length-σ.k))) \/
  ((σ.E≠0\/which kinds (ts.drop σ.k)=none)/\σ.run ts En dE=⟨σ.k,if σ.E=0 then 10 else σ.E,if σ.E=0 then ag ts En (ts.length-σ.k) else σ.O⟩/\σ.val ts dE=none):=by
 obtain⟨k,E,O⟩:=σ
 simp only at hk |-
 by_cases h0:E=0
 ·subst h0
  cases h:which kinds (ts.drop k) with
  | none =>
   have e:dE (ts.drop k) = .er 10 (ts.length-k) (ts.length-k):=by unfold dE mg;rw[h];simp only[bad,List.length_drop,lU]
   obtain⟨r1,r2⟩:=iJ (En:=En) (O:=O) e (show ts.length-(ts.length-k)=k from zac)
   exact .inr ⟨.inr rfl,r1,r2⟩
  | some u =>
   obtain⟨h1,h2⟩:=ek _ _ _ h
   have hkt:k<ts.length:=by
    rcases Nat.lt_or_ge k ts.length with z|z
    ·exact z
    ·exact absurd (List.drop_eq_nil_of_le z) h2
   have e:dE (ts.drop k)=iZ (u+1) (ts.length-k) (ts.drop (k+1)):=by
    unfold dE mg iZ
    rw[h]
    simp only[List.tail_drop,List.length_drop,bind_assoc,bind_ok]
   obtain⟨r1,r2⟩:=dM (ts:=ts) (En:=En) (k:=k) (O:=O) (o:=dE) (o':=iZ (u+1) (ts.length-k)) e
   exact .inl ⟨u,by simpa[kinds] using h1,rfl,hkt,rfl,r1,r2⟩
 ·exact .inr ⟨.inl h0,by rw[dx (σ:=⟨k,E,O⟩) h0,if_neg h0,if_neg h0],dZ (σ:=⟨k,E,O⟩) h0 _⟩
end
theorem ig {P:Program}{fn:Func}{p q:Tmp}{ty tz:TypeId}(h:fn.results=#[.cell p ty,.cell q tz]){tmps:Array Value}{w:World}{b c:Nat}{l m:List Value}{d e:TypeDesc}
  (hp:tmps.getD p undef = .pointer (some ⟨b,0,none⟩))(hq:tmps.getD q undef = .pointer (some ⟨c,0,none⟩))
  (hu:P.underlying ty=some d)(hd:d.isRow=true)(hi:(P.info? ty).map (·.size)=some l.length)(hl:w.rangeAt b 0 l)
  (hv:P.underlying tz=some e)(he:e.isRow=true)(hj:(P.info? tz).map (·.size)=some m.length)(hm:w.rangeAt c 0 m) :
  (results fn tmps).run P w = .ok (.tuple #[.agg l.toArray,.agg m.toArray]) w:=by
 have h1:=run_loadVar_mid w b 0 ty l d hl hu hd hi
 have h2:=run_loadVar_mid w c 0 tz m e hm hv he hj
 have hp':tmps[p]?.getD undef = .pointer (some ⟨b,0,none⟩):=by simpa using hp
 have hq':tmps[q]?.getD undef = .pointer (some ⟨c,0,none⟩):=by simpa using hq
 simp[results,h,hp',hq',asAddr,h1,h2]
theorem aH.range {w:World}{b:Nat}{l:List Value}(h:aH w b l):w.rangeAt b 0 l:=fun j v hv=>by rw[Nat.zero_add];exact(h j v hv).1
theorem B5.range {w:World}{b:Nat}{x0 x1 x2 x3 x4:Value}(h:B5 w b x0 x1 x2 x3 x4):w.rangeAt b 0 [x0,x1,x2,x3,x4]:=fun j v hv=>by rw[Nat.zero_add];exact h.row j v hv
def Bi (w:World)(p:Option Addr)(n cap:Nat)(k En E O:Int)(ofs:Nat->Int)(t:Option Pa.Rule)(e:Ending)(w':World):Prop :=
 ∃l:List Value,l.length=28/\(∀u∈l,u.oneCell'=true)/\e = .returned (.tuple #[.agg l.toArray,.agg #[.slice p n cap,zI zL k,zI zL En,zI zL E,zI zL O]])/\(∀u,t=some u->∃x y:NV,l=rV ofs u x y/\NodeA w' (fun j=>w.heap.size<=j) ofs u.whn x/\NodeA w' (fun j=>w.heap.size<=j) ofs u.give y)/\RowKit.Below w.heap.size w w'
inductive IsActR (A db:Nat) (at0:Int):Act->Prop where
 | mk (u0 u6 u7 u8 u9 u10 u11 u12 u13 u14 u15 u16 u17 u18 u19 u20 u21 u22 u23 u24 u25 u26 u27 u28 u29 u30 u31 u32 u33 u34 u35 u36 u37 u38 u39 u40 u41 u42 u43 u44 u45 u46 u47 u48 u49 u50 u51 u52 u53 u54 u55 u56 u57 u58 u59 u60 u61 u62 u63 u64 u65 u66 u67 u68 u69 u70 u71 u72 u73 u74 u75 u76 u77 u78 u79 u80 u81 u82 u83 u84 u85 u86 u87 u88 u89 u90 u91 u92 u93 u94 u95 u96 u97 u98 u99 u100 u101 u102 u103 u104 u105 u106 u107 u108 u109 u110 u111:Value):IsActR A db at0 { tmps:=List.toArray (u0 :: .pointer (some ⟨A,0,none⟩) :: .pointer (some ⟨A+1,0,none⟩) :: .pointer (some ⟨A+2,0,none⟩) :: zI zL at0 :: .pointer (some ⟨db,0,none⟩)::u6::u7::u8::u9::u10::u11::u12::u13::u14::u15::u16::u17::u18::u19::u20::u21::u22::u23::u24::u25::u26::u27::u28::u29::u30::u31::u32::u33::u34::u35::u36::u37::u38::u39::u40::u41::u42::u43::u44::u45::u46::u47::u48::u49::u50::u51::u52::u53::u54::u55::u56::u57::u58::u59::u60::u61::u62::u63::u64::u65::u66::u67::u68::u69::u70::u71::u72::u73::u74::u75::u76::u77::u78::u79::u80::u81::u82::u83::u84::u85::u86::u87::u88::u89::u90::u91::u92::u93::u94::u95::u96::u97::u98::u99::u100::u101::u102::u103::u104::u105::u106::u107::u108::u109::u110::u111::[]),defers:=[] }
theorem mh:∀t:List Tok,(Pa.skip t).length<=t.length
 | []=>Nat.le_refl _
 | x::r=>by
  unfold Pa.skip
  split
  ·simp
  ·have:=mh r;simp only[List.length_cons];omega
theorem uJ (ts:List Tok)(p:Option Addr)(b off cap n k En:Nat)(E O:Int)(w:World)(hS:SlT w p b off n ts)(hk:k<=n) :
  Calls Tryz.prog 23 #[.agg #[.slice p n cap,zI zL k,zI zL En,zI zL E,zI zL O]] w fun e w'=>e = .returned (.agg #[.slice p n cap,zI zL (n-(Pa.skip (ts.drop k)).length:Nat),zI zL En,zI zL 0,zI zL 0])/\RowKit.Below w.heap.size w w':=by
 have hl:=hS.ln
 have hmx:=hS.max
 obtain⟨SK,hSK⟩:∃l,l=Pa.skip (ts.drop k):=⟨_,rfl⟩
 rw[<-hSK]
 obtain⟨K,hK⟩:∃K,K=n-SK.length:=⟨_,rfl⟩
 have HKK:Hid (n-SK.length=K):=hK.symm
 rw[<-hK]
 have HE0:Hid (Pa.skip (ts.drop k)=SK):=hSK.symm
 clear hK hSK
 have HS:=zH hS
 clear hS
 obtain⟨W2,hW2⟩:∃W2,W2=(w.alloc (.cells #[.slice p n cap,zI zL k,zI zL En,zI zL E,zI zL O] 62)).alloc (.cells #[.slice none 0 0,zI zL 0,zI zL 0,zI zL 0,zI zL 0] 62):=⟨_,rfl⟩
 have s1:(w.alloc (.cells #[.slice p n cap,zI zL k,zI zL En,zI zL E,zI zL O] 62)).heap.size=w.heap.size+1:=by simp
 have XA:Hid (B5 W2 w.heap.size (.slice p n cap) (zI zL k) (zI zL En) (zI zL E) (zI zL O)):=by rw[hW2];exact(B5.new w _ _ _ _ _ 62).bel ((Below.refl _ _).alloc (Nat.le_refl _) _)
 have XR:Hid (B5 W2 (w.heap.size+1) (.slice none 0 0) (zI zL 0) (zI zL 0) (zI zL 0) (zI zL 0)):=by
  rw[hW2]
  have:=B5.new (w.alloc (.cells #[.slice p n cap,zI zL k,zI zL En,zI zL E,zI zL O] 62)) (.slice none 0 0) (zI zL 0) (zI zL 0) (zI zL 0) (zI zL 0) 62
  rw[s1] at this
  exact this
 have XB:Hid (RowKit.Below w.heap.size w W2):=by rw[hW2];exact((Below.refl _ _).alloc (Nat.le_refl _) _).trans (((Below.refl _ _).alloc (Nat.le_refl _) _).mono (by rw[s1];omega))
 clear s1
 go_enter Tryz.func23,Tryz.ntmps23
 go_wp2_with fail
 rw[<-hW2]
 clear hW2
 go_loopg [] n (fun g wr=>∃j:Nat,n-j<=g/\j<=n/\Hid (B5 wr w.heap.size (.slice p n cap) (zI zL j) (zI zL En) (zI zL E) (zI zL O))/\Hid (B5 wr (w.heap.size+1) (.slice none 0 0) (zI zL 0) (zI zL 0) (zI zL 0) (zI zL 0))/\Hid (RowKit.Below w.heap.size w wr)/\Hid (Pa.skip (ts.drop j)=SK))
 case atStart=>exact⟨k,zac,hk,XA,XR,XB,HE0⟩
 case round =>
  clear XA XR XB HE0
  obtain⟨j,hg,hj,XA,XR,XB,HE⟩:=hrel
  obtain⟨c0,c1,c2,c3,c4,f0,f1,f2,f3,f4⟩:=XA.out
  by_cases h:j<n
  ·have hz:(j:Int)<(n:Int):=by omega
   have hkt:j<ts.length:=zac
   have hp:=HS.out.ptr zac
   have hd:ts.drop j=ts[j]::ts.drop (j+1):=List.drop_eq_getElem_cons hkt
   have hj1:IntKind.i64.wrap ((j:Int)+1)=((j:Int)+1):=zbo
   obtain⟨a0,a1,a2,a3,a4⟩:=(HS.out.bel XB.out).cells j hkt
   have HE1:=HE.out
   rw[hd] at HE1
   unfold Pa.skip at HE1
   have HQ:isT sSc ts[j]=(decide (ts[j].k≠2)&&ts[j].t==sSc):=rfl
   rw[HQ] at HE1
   clear HE hd HQ
   generalize ts[j]=t at *
   obtain⟨tk,ta,tt,tn,td⟩:=t
   simp only at HE1 a0 a1 a2 a3 a4
   subst hp
   by_cases h2:tk=2
   ·subst h2
    have HE2:Hid (Pa.skip (ts.drop (j+1))=SK):=by show _=_;simpa using HE1
    clear HE1
    exact DD
   ·have e2:(tk==2)=false:=by simpa using h2
    have e3:=tN tt sSc
    have e4:decide (tk≠2)=true:=decide_eq_true h2
    rw[e4,Bool.true_and] at HE1
    cases hq:(tt==sSc) with
    | false =>
     have HE2:Hid (Pa.skip (ts.drop (j+1))=SK):=by rw[hq] at HE1;show _=_;simpa using HE1
     rw[hq] at e3
     have e5:((bs tt).toList==[59])=false:=by rw[aM,aM] at e3;rw[aM];exact e3
     have e6:((bs tt).toList != [59])=true:=by rw[bne,e5];rfl
     clear HE1 e4 hq
     exact DD
    | true =>
     have HE2:Hid (ts.drop (j+1)=SK):=by rw[hq] at HE1;show _=_;simpa using HE1
     rw[hq] at e3
     have e5:((bs tt).toList==[59])=true:=by rw[aM,aM] at e3;rw[aM];exact e3
     have e6:((bs tt).toList != [59])=false:=by rw[bne,e5];rfl
     clear HE1 e4 hq
     obtain rfl:K=j+1:=by rw[<-HKK.out,<-HE2.out,List.length_drop];omega
     obtain⟨n0,n1,n2,n3,n4,g0,g1,g2,g3,g4⟩:=XR.out
     go_wp2_with fail
     exact bodyPost_ret (v:= .agg #[.slice (some ⟨b,off,none⟩) n cap,zI zL (j+1:Nat),zI zL En,zI zL 0,zI zL 0]) (by simp[results,Tryz.results23,go_sem,n0,n1,n2,n3,n4]) rfl ⟨rfl,zax⟩
  ·have hz:¬(j:Int)<(n:Int):=by omega
   obtain rfl:j=n:=zac
   obtain rfl:K=j:=by rw[<-HKK.out,<-HE.out,List.drop_eq_nil_of_le zac];simp[Pa.skip]
   obtain⟨n0,n1,n2,n3,n4,g0,g1,g2,g3,g4⟩:=XR.out
   go_wp2_with fail
   exact bodyPost_ret (v:= .agg #[.slice p K cap,zI zL (K:Nat),zI zL En,zI zL 0,zI zL 0]) (by simp[results,Tryz.results23,go_sem,n0,n1,n2,n3,n4]) rfl ⟨rfl,zax⟩
end Go.Proofs.YtnjfolljbfkojaaGreatDoor
