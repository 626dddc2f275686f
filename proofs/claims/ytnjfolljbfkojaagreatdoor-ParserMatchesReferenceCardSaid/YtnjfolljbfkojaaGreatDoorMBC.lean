import Derived.Test.YtnjfolljbfkojaaGreatDoorMAX
import Derived.Test.YtnjfolljbfkojaaGreatDoorMBB
set_option maxRecDepth 100000
set_option maxHeartbeats 20000000
namespace Go.Proofs.YtnjfolljbfkojaaGreatDoor
open Go.Value renaming int→zI
open Go.IntKind renaming i64→zL
open Go.Lib renaming hid→zH
open Lx
def acP (T:List UInt8)(p:Nat):Nat->Nat
 | 0=>0
 | i+1=>if i=p then acP T p i else 10*acP T p i+((T.getD i 0).toNat-48)
def dnP (p:Nat):Nat->Nat
 | 0=>1
 | i+1=>if p<i then 10*dnP p i else dnP p i
theorem jQ (l:List UInt8)(c:UInt8):rY (l++[c])=rY l*10+(c.toNat-48):=by unfold rY;rw[List.foldl_append];rfl
theorem jP {T:List UInt8}{i:Nat}(h:i<T.length):T.getD i 0=T[i]:=by rw[List.getD_eq_getElem?_getD,List.getElem?_eq_getElem h];rfl
theorem xx (T:List UInt8)(p:Nat):∀i,i<=p->i<=T.length->acP T p i=rY (T.take i)
 | 0,_,_=>rfl
 | i+1,hi,hl=>by
  rw[acP,if_neg zac,xx T p i zac zac,List.take_succ_eq_append_getElem zac,jQ,jP zac];omega
theorem Ae (T:List UInt8)(p:Nat):∀j,p+1+j<=T.length->acP T p (p+1+j)=rY (T.take p++(T.drop (p+1)).take j)
 | 0,hl=>by
  rw[Nat.add_zero,acP,if_pos rfl,xx T p p (Nat.le_refl _) zac];simp
 | j+1,hl=>by
  rw[show p+1+(j+1)=(p+1+j)+1 from zac,acP,if_neg zac,Ae T p j zac,List.take_succ_eq_append_getElem zbn,<-List.append_assoc,jQ,jP zac,List.getElem_drop];omega
theorem tQ (p:Nat):∀i,i<=p+1->dnP p i=1
 | 0,_=>rfl
 | i+1,h=>by rw[dnP,if_neg zac,tQ p i zac]
theorem zZ (p:Nat):∀j,dnP p (p+1+j)=10^j
 | 0=>tQ p _ zac
 | j+1=>by rw[show p+1+(j+1)=(p+1+j)+1 from zac,dnP,if_pos zac,zZ p j,Nat.pow_succ,Nat.mul_comm]
theorem zY (p:Nat):∀i,dnP p i<=10^i
 | 0=>by simp[dnP]
 | i+1=>by
  have:=zY p i
  rw[dnP,Nat.pow_succ];split<;>omega
theorem Eg {n d k:Nat}(hd:0<d)(hk:0<k):mk ((n*k:Nat):Int) ((d*k:Nat):Int)=mk (n:Int) (d:Int):=by
 have h1:((d*k:Nat):Int)≠0:=by
  have:0<d*k:=Nat.mul_pos hd hk
  omega
 have h2:(d:Int)≠0:=zac
 have e:=Q.red_mul (n:=(n:Int)) (d:=(d:Int)) (k:=(k:Int)) h2 zac
 unfold mk
 rw[if_neg h1,if_neg h2]
 rw[show((n*k:Nat):Int)=(k:Int)*n by rw[Int.natCast_mul,Int.mul_comm],show((d*k:Nat):Int)=(k:Int)*d by rw[Int.natCast_mul,Int.mul_comm],e]
theorem kZ (l:List UInt8):∀k,rY (l++List.replicate k 48)=rY l*10^k
 | 0=>by simp
 | k+1=>by
  rw[List.replicate_succ',<-List.append_assoc,jQ,kZ l k,Nat.pow_succ]
  have:(48:UInt8).toNat-48=0:=rfl
  rw[this,Nat.add_zero,Nat.mul_assoc]
theorem uz {x:List UInt8}(hf:frm x=true):Vh (hun x)=mk (rY (whole x++(behind x).tail):Nat) ((10^(behind x).tail.length:Nat):Int):=by
 have hl:(behind x).tail.length<=2:=by
  unfold frm at hf
  rw[Bool.and_eq_true,Bool.or_eq_true,decide_eq_true_eq] at hf
  rcases hf.2 with h|h
  ·rw[h];simp
  ·exact(bX h).2.1
 unfold Vh hun
 have e:((behind x).tail++[48,48]).take 2=(behind x).tail++List.replicate (2-(behind x).tail.length) 48:=by
  generalize (behind x).tail=B at hl |-
  match B,hl with
  | [],_=>rfl
  | [_],_=>rfl
  | [_,_],_=>rfl
 rw[e,<-List.append_assoc,kZ]
 have h100:(100:Int)=((10^(behind x).tail.length*10^(2-(behind x).tail.length):Nat):Int):=by
  rw[<-Nat.pow_add,show(behind x).tail.length+(2-(behind x).tail.length)=2 by omega];rfl
 rw[h100,Eg (Nat.pow_pos zac) (Nat.pow_pos zac)]
def wl (x:List UInt8):Nat:=(x.takeWhile dgt).length
theorem yS {x:List UInt8}(h:wl x=x.length\/(wl x<x.length/\(x.getD (wl x) 0).toNat=46)):whole x=x.take (wl x)/\behind x=x.drop (wl x):=by
 have hp:∀c∈x.take (wl x),decide (c.toNat≠46)=true:=by
  intro c hc
  unfold wl at hc
  rw[dA] at hc
  have:=List.all_eq_true.1 (kS (p:=dgt) x) c hc
  simpa using (pU c this).2.2.2.2
 have e:x.take (wl x)++x.drop (wl x)=x:=List.take_append_drop _ _
 have hw:whole x=x.take (wl x):=by
  unfold whole
  rcases h with h|⟨h,h2⟩
  ·have ht:x.take (wl x)=x:=List.take_of_length_le zac
   rw[ht] at hp |-
   exact lS (List.all_eq_true.2 hp)
  ·exact uU h (List.all_eq_true.2 hp) (decide_eq_false (fun hh=>hh h2))
 refine⟨hw,?_⟩
 have:=dw x
 rw[hw] at this
 exact List.append_cancel_left (this.trans e.symm)
def uH (x:List UInt8):Prop:=wl x<1\/9<wl x\/(wl x<x.length/\((x.getD (wl x) 0).toNat≠46\/x.length<wl x+2\/wl x+3<x.length))
theorem CG {x:List UInt8}(hf:frm x=true):wl x=(whole x).length:=by
 unfold frm at hf
 rw[Bool.and_eq_true,Bool.or_eq_true,decide_eq_true_eq] at hf
 obtain⟨a1,a2,a3⟩:=bX hf.1
 have hp:=dw x
 have:x.takeWhile dgt=whole x:=by
  have:=nV (p:=dgt) (whole x) (behind x) a3 (fun c hc=>by
   by_cases hb:behind x=[]
   ·rw[hb] at hc;simp at hc
   ·rw[gN hb] at hc
    simp only[List.head?_cons,Option.some.injEq] at hc
    rw[<-hc];decide)
  rwa [hp] at this
 unfold wl;rw[this]
theorem tJ {x:List UInt8}(h:uH x):frm x=false:=by
 cases hf:frm x with
 | false=>rfl
 | true =>
  exfalso
  have hw:=CG hf
  have hp:=dw x
  unfold frm at hf
  rw[Bool.and_eq_true,Bool.or_eq_true,decide_eq_true_eq] at hf
  obtain⟨a1,a2,a3⟩:=bX hf.1
  have hl:=congrArg List.length hp
  rw[List.length_append] at hl
  have h1:1<=(whole x).length:=by
   cases hx:whole x with
   | nil=>exact absurd hx a1
   | cons _ _=>simp
  by_cases hb:behind x=[]
  ·rw[hb] at hl
   simp at hl
   unfold uH at h;omega
  ·have hh:=gN hb
   have h2:=bX (hf.2.resolve_left hb)
   have h3:1<=(behind x).tail.length:=by
    cases hx:(behind x).tail with
    | nil=>exact absurd hx h2.1
    | cons _ _=>simp
   rw[hh,List.length_cons] at hl
   have h4:x.getD (wl x) 0=46:=by
    have q:∀(A B:List UInt8),(A++46::B).getD A.length 0=46:=fun A B=>by
     rw[List.getD_eq_getElem?_getD,List.getElem?_append_right (Nat.le_refl _)];simp
    have q2:=q (whole x) (behind x).tail
    rw[<-hh,hp,<-hw] at q2
    exact q2
   unfold uH at h
   rw[h4] at h
   have h46:(46:UInt8).toNat=46:=rfl
   omega
theorem qI {x:List UInt8}(h:¬uH x):(frm x=true↔∀i,i<x.length->i≠wl x->dgt (x.getD i 0)=true)/\(frm x=true->mk ((acP x (wl x) x.length:Nat):Int) ((dnP (wl x) x.length:Nat):Int)=Vh (hun x))/\1<=wl x/\wl x<=9/\x.length<=wl x+3/\wl x<=x.length:=by
 have hle:wl x<=x.length:=bG x
 have h':1<=wl x/\wl x<=9/\(wl x<x.length->(x.getD (wl x) 0).toNat=46/\wl x+2<=x.length/\x.length<=wl x+3):=by
  unfold uH at h
  omega
 have hwe:=yS (x:=x) (by
  by_cases hx:wl x<x.length
  ·exact Or.inr ⟨hx,(h'.2.2 hx).1⟩
  ·exact Or.inl zac)
 have hta:(x.take (wl x)).all dgt=true:=by unfold wl;rw[dA];exact kS x
 have hlo:∀i,i<wl x->dgt (x.getD i 0)=true:=fun i hi=>by
  have hi2:i<(x.take (wl x)).length:=by rw[List.length_take];omega
  exact Ch
 have hdw:gU (x.take (wl x)) 9=true:=by
  unfold gU oG
  rw[hta,decide_eq_true (by rw[List.length_take];omega:(x.take (wl x)).length<=9)]
  simp only[Bool.and_true,decide_eq_true_eq]
  intro e
  have:=congrArg List.length e
  rw[List.length_take,List.length_nil] at this
  omega
 refine⟨?_,?_,h'.1,h'.2.1,zac,hle⟩
 ·unfold frm
  rw[hwe.1,hwe.2,hdw,Bool.true_and,Bool.or_eq_true,decide_eq_true_eq,List.tail_drop]
  by_cases hx:wl x<x.length
  ·obtain⟨b1,b2,b3⟩:=h'.2.2 hx
   have hne:x.drop (wl x)≠[]:=by
    intro e
    have:=congrArg List.length e
    rw[List.length_drop,List.length_nil] at this
    omega
   constructor
   ·intro h1 i hi hn
    by_cases hiw:i<wl x
    ·exact hlo i hiw
    ·obtain⟨_,_,c3⟩:=bX (h1.resolve_left hne)
     have hi2:i-(wl x+1)<(x.drop (wl x+1)).length:=zbn
     have:=List.all_eq_true.1 c3 _ (List.getElem_mem hi2)
     rw[List.getElem_drop] at this
     rw[jP hi]
     have e:wl x+1+(i-(wl x+1))=i:=zac
     simpa only [e] using this
   ·intro h1
    right
    unfold gU oG
    rw[decide_eq_true (by rw[List.length_drop];omega:(x.drop (wl x+1)).length<=2)]
    simp only[Bool.and_true,Bool.and_eq_true,decide_eq_true_eq]
    constructor
    ·intro e
     have:=congrArg List.length e
     rw[List.length_drop,List.length_nil] at this
     omega
    ·rw[List.all_eq_true]
     intro c hc
     obtain⟨j,hj,rfl⟩:=List.getElem_of_mem hc
     rw[List.length_drop] at hj
     rw[List.getElem_drop,<-jP zac]
     exact h1 _ zac zac
  ·constructor
   ·intro _ i hi hn;exact hlo i zac
   ·intro _;left;exact List.drop_eq_nil_of_le zac
 ·intro hf
  rw[uz hf,hwe.1,hwe.2,List.tail_drop]
  by_cases hx:wl x<x.length
  ·obtain⟨j,hj⟩:∃j,x.length=wl x+1+j:=⟨x.length-wl x-1,zac⟩
   have e1:=Ae x (wl x) j zac
   have e2:=zZ (wl x) j
   rw[<-hj] at e1 e2
   have e3:(x.drop (wl x+1)).length=j:=zbn
   have e4:(x.drop (wl x+1)).take j=x.drop (wl x+1):=List.take_of_length_le zac
   rw[e1,e2,e3,e4]
  ·have e3:x.drop (wl x+1)=[]:=List.drop_eq_nil_of_le zac
   rw[xx x (wl x) _ zac (Nat.le_refl _),tQ (wl x) _ zac,e3,List.take_of_length_le (Nat.le_refl _),List.take_of_length_le zac,List.append_nil]
   rfl
end Go.Proofs.YtnjfolljbfkojaaGreatDoor
namespace Go.Proofs.YtnjfolljbfkojaaGreatDoor
open Go.Value renaming int→zI
open Go.IntKind renaming i64→zL
open Go.Lib renaming hid→zH
open Go.RowKit Lx Pa
theorem Bg {M:Int->Int->Int×Int×Int}{ts:List Tok}{En:Nat}(σ:Sg)(hk:σ.k<=ts.length) :
  (σ.val ts (rd M .ex)=none/\(σ.run ts En (rd M .ex)).E≠0/\σ.run ts En (af M)=σ.run ts En (rd M .ex)/\σ.val ts (af M)=none) \/
  ∃u,σ.val ts (rd M .ex)=some u/\(σ.run ts En (rd M .ex)).E=0/\rd M .ex (ts.drop σ.k) = .ok u (ts.drop (σ.run ts En (rd M .ex)).k) /\
   ((big u=true/\σ.run ts En (af M)=⟨(σ.run ts En (rd M .ex)).k,2,ag ts En u.pl⟩/\σ.val ts (af M)=none) \/
    (big u=false/\σ.run ts En (af M)=σ.run ts En (rd M .ex)/\σ.val ts (af M)=some u)):=by
 have hg:=fe (M:=M) (ts.drop σ.k)
 have hk1:=(au (En:=En) hg hk).1
 obtain⟨q1,q2⟩:=run_bind (En:=En) (f:=fun n r=>if big n then Out.er 2 n.pl r.length else Out.ok n r) hg hk
 have e1:σ.run ts En (af M)=_:=q1
 have e2:σ.val ts (af M)=_:=q2
 cases hv:σ.val ts (rd M .ex) with
 | none =>
  rw[hv] at e1 e2
  exact .inl ⟨rfl,jC (En:=En) hg hv,e1,e2⟩
 | some u =>
  rw[hv] at e1 e2
  obtain⟨h0,h1,h2,r,h3,h4⟩:=ik (En:=En) hv
  obtain⟨-,k2,-,-,-⟩:=kV (En:=En) h0 h3 hg hk
  refine .inr ⟨u,rfl,h1,by rw[k2];exact h3,?_⟩
  obtain⟨σ1,hs⟩:∃x,x=σ.run ts En (rd M .ex):=⟨_,rfl⟩
  rw[<-hs] at e1 e2 h1 hk1 |-
  obtain⟨k1,E1,O1⟩:=σ1
  simp only at h1 hk1 e1 e2 |-
  subst h1
  cases hb:big u with
  | true =>
   obtain⟨a1,a2⟩:=iJ (ts:=ts) (En:=En) (k:=k1) (O:=O1) (k':=k1) (o:=fun r=>if big u then Out.er 2 u.pl r.length else Out.ok u r) (by simp only[hb,if_true];rfl) zbn
   exact .inl ⟨rfl,e1.trans a1,e2.trans a2⟩
  | false =>
   obtain⟨a1,a2⟩:=fJ (ts:=ts) (En:=En) (k:=k1) (O:=O1) (k':=k1) (o:=fun r=>if big u then Out.er 2 u.pl r.length else Out.ok u r) (a:=u) (by simp[hb]) hk1
   exact .inr ⟨rfl,e1.trans a1,e2.trans a2⟩
theorem qx {ts:List Tok}{p:Option Addr}{b off cap n En:Nat}(hT:eQ ts)(σ:Sg)(hk:σ.k<=n)(w:World)(hS:SlT w p b off n ts):Calls Tryz.prog 47 #[.agg #[.slice p n cap,zI zL (σ.k:Nat),zI zL En,zI zL σ.E,zI zL σ.O]] w fun e w'=>bO w ts p n cap En ((σ.run ts En (af M0)).k:Nat) (σ.run ts En (af M0)).E (σ.run ts En (af M0)).O (σ.val ts (af M0)) e w':=by
 have hl:=hS.ln
 have hmx:=hS.max
 have q1:Hid (∀w1,SlT w1 p b off n ts->_):=fun w1 hS1=>qY (cap:=cap) (En:=En) hT σ hk w1 hS1
 have HS:=zH hS
 clear hS
 rcases Bg (M:=M0) (ts:=ts) (En:=En) σ zac with ⟨h1,h2,h3,h4⟩|⟨u0,h1,h2,hx,h3⟩
 ·rw[h3,h4]
  rw[h1] at q1
  clear h1 h3 h4
  obtain⟨σ1,hs⟩:∃x,x=σ.run ts En (rd M0 .ex):=⟨_,rfl⟩
  rw[<-hs] at q1 h2 |-
  clear hs
  obtain⟨k,E,O⟩:=σ
  obtain⟨k1,E1,O1⟩:=σ1
  simp only at q1 h2 hk |-
  have hE:(E1==0)=false:=zcw
  clear h2
  obtain⟨W3,hW3⟩:∃W3,W3=((w.alloc (.cells #[.slice p n cap,zI zL (k:Nat),zI zL En,zI zL E,zI zL O] 62)).alloc (.cells #[zI zL 0,zI zL 0,.string ⟨#[]⟩,zI zL 0,zI zL 0,.bool false,zI zL 0,zI zL 0,zI zL 0,.slice none 0 0] 36)).alloc (.cells #[.slice none 0 0,zI zL 0,zI zL 0,zI zL 0,zI zL 0] 62):=⟨_,rfl⟩
  have F:=zH (Fr.new w p n cap (k:Nat) En E O 62 36)
  rw[<-hW3] at F
  go_enter Tryz.func47,Tryz.ntmps47
  go_wp2_with fail
  rw[<-hW3]
  clear hW3
  obtain⟨c0,c1,c2,c3,c4,f0,f1,f2,f3,f4⟩:=F.out.A
  have lox:=World.block_lt_of_cell? _ _ F.out.R.c0
  refine(q1.out _ (HS.out.bel F.out.B)).mono ?_
  rintro _ v3 ⟨⟨xo,xa,xs,xn,xd,xf,xm,xr,xy,xq,xk,xc⟩,rfl,hn,hb⟩
  have hsx:=hb.size
  replace F:=zH (F.out.bel hb)
  have Nx:=zH hn
  clear hb hn c0 c1 c2 c3 c4 f0 f1 f2 f3 f4
  obtain⟨c0,c1,c2,c3,c4,f0,f1,f2,f3,f4⟩:=F.out.A
  have hvx:=World.block_lt_of_cell? _ _ c0
  go_wp2_with fail
  obtain⟨hF,hK,hX⟩:=F.out.node (zI zL xo) (zI zL xa) (.string xs) (zI zL xn) (zI zL xd) (.bool xf) (zI zL xm) (zI zL xr) (zI zL xy) (.slice xq xk xc) 36 (k1:Nat) E1 O1
  replace F:=zH hF
  have Xx:=zH hX
  replace Nx:=zH (fun u hu=>ah.kept hK zac _ _ (Nx.out u hu))
  have hsx':=hK.size
  clear hF hK hX c0 c1 c2 c3 c4 f0 f1 f2 f3 f4
  generalize ((((((v3.setCell ⟨w.heap.size,0,none⟩ (.slice p n cap)).setCell ⟨w.heap.size,1,none⟩ (zI zL (k1:Nat))).setCell ⟨w.heap.size,2,none⟩ (zI zL En)).setCell ⟨w.heap.size,3,none⟩ (zI zL E1)).setCell ⟨w.heap.size,4,none⟩ (zI zL O1)).alloc (.cells #[zI zL xo,zI zL xa,.string xs,zI zL xn,zI zL xd,.bool xf,zI zL xm,zI zL xr,zI zL xy,.slice xq xk xc] 36))=V1 at *
  generalize v3.heap.size=blx at *
  obtain⟨c0,c1,c2,c3,c4,f0,f1,f2,f3,f4⟩:=F.out.A
  have hS:Hid (B10 V1.drew blx (zI zL xo) (zI zL xa) (.string xs) (zI zL xn) (zI zL xd) (.bool xf) (zI zL xm) (zI zL xr) (zI zL xy) (.slice xq xk xc)/\B5 V1.drew w.heap.size (.slice p n cap) (zI zL (k1:Nat)) (zI zL En) (zI zL E1) (zI zL O1)):=⟨Xx.out.bel (Below.refl _ _).drew,F.out.A.bel (Below.refl _ _).drew⟩
  refine wp_region_held (S:=fun w':World=>Hid (B10 w' blx (zI zL xo) (zI zL xa) (.string xs) (zI zL xn) (zI zL xd) (.bool xf) (zI zL xm) (zI zL xr) (zI zL xy) (.slice xq xk xc)/\B5 w' w.heap.size (.slice p n cap) (zI zL (k1:Nat)) (zI zL En) (zI zL E1) (zI zL O1))) mixed ?_
  change wpAnyH _ _ _ _ _ _ _ _ V1.drew
  refine tk0 (v:= .agg #[zI zL xo,zI zL xa,.string xs,zI zL xn,zI zL xd,.bool xf,zI zL xm,zI zL xr,zI zL xy,.slice xq xk xc]) zab zab zab (fun _ _ _ h=>h) (Or.inl ⟨zab,?_⟩) hS ?_
  ·exact Cy
  simp only[Act.put,zA,zB,zC]
  refine tk1 (v:= .agg #[.slice p n cap,zI zL (k1:Nat),zI zL En,zI zL E1,zI zL O1]) zab zab zab (fun _ _ _ h=>h) (Or.inl ⟨zab,?_⟩) hS ?_
  ·exact EM
  simp only[Act.put,zA,zB,zC]
  have hb4:=(Below.refl V1.heap.size V1).drew
  replace F:=zH (F.out.bel hb4)
  replace Nx:=zH (fun u hu=>ah.bel hb4 _ _ (Nx.out u hu))
  clear hb4 Xx
  generalize V1.drew=VE at *
  obtain⟨n0,n1,n2,n3,n4,n5,n6,n7,n8,n9,m0,m1,m2,m3,m4,m5,m6,m7,m8,m9⟩:=F.out.N
  obtain⟨e0,e1,e2,e3,e4,g0,g1,g2,g3,g4⟩:=F.out.R
  have BV:=zH F.out.B
  refine wpAnyH_ready (rs:=[2]) zab (by simp) (st2 (fun K hK=>?_) AllReadyH.nil)
  go_simp
  have hk:=Kept.set10 (Kept.refl (w.heap.size+1) VE) (zI zL xo) (zI zL xa) (.string xs) (zI zL xn) (zI zL xd) (.bool xf) (zI zL xm) (zI zL xr) (zI zL xy) (.slice xq xk xc)
  have hS0:=hS
  replace hS:Hid (B10 _ blx (zI zL xo) (zI zL xa) (.string xs) (zI zL xn) (zI zL xd) (.bool xf) (zI zL xm) (zI zL xr) (zI zL xy) (.slice xq xk xc)/\B5 _ w.heap.size (.slice p n cap) (zI zL (k1:Nat)) (zI zL En) (zI zL E1) (zI zL O1)):=⟨hS0.out.1.kept hk zac,hS0.out.2.kept hk zac⟩
  clear hk hS0
  refine hK.out _ _ ?_ (fun hHeld=>?_)
  ·exact hS
  clear hK K
  try simp only[Act.put,zA,zB,zC]
  refine wpAnyH_ready (rs:=[3]) zab (by simp) (st3 (fun K hK=>?_) AllReadyH.nil)
  go_simp
  have hk:=Kept.set5 (Kept.refl (w.heap.size+2) ((((((((((VE.setCell ⟨w.heap.size+1,0,none⟩ (zI zL xo)).setCell ⟨w.heap.size+1,1,none⟩ (zI zL xa)).setCell ⟨w.heap.size+1,2,none⟩ (.string xs)).setCell ⟨w.heap.size+1,3,none⟩ (zI zL xn)).setCell ⟨w.heap.size+1,4,none⟩ (zI zL xd)).setCell ⟨w.heap.size+1,5,none⟩ (.bool xf)).setCell ⟨w.heap.size+1,6,none⟩ (zI zL xm)).setCell ⟨w.heap.size+1,7,none⟩ (zI zL xr)).setCell ⟨w.heap.size+1,8,none⟩ (zI zL xy)).setCell ⟨w.heap.size+1,9,none⟩ (.slice xq xk xc))) (.slice p n cap) (zI zL (k1:Nat)) (zI zL En) (zI zL E1) (zI zL O1)
  have hS0:=hS
  replace hS:Hid (B10 _ blx (zI zL xo) (zI zL xa) (.string xs) (zI zL xn) (zI zL xd) (.bool xf) (zI zL xm) (zI zL xr) (zI zL xy) (.slice xq xk xc)/\B5 _ w.heap.size (.slice p n cap) (zI zL (k1:Nat)) (zI zL En) (zI zL E1) (zI zL O1)):=⟨hS0.out.1.kept hk zac,hS0.out.2.kept hk zac⟩
  clear hk hS0
  refine hK.out _ _ ?_ (fun hHeld=>?_)
  ·exact hS
  clear hK K
  try simp only[Act.put,zA,zB,zC]
  refine wpAnyH_done zab ?_ _
  go_wp2_with fail
  refine bodyPost_ret (v:= .tuple #[.agg #[zI zL xo,zI zL xa,.string xs,zI zL xn,zI zL xd,.bool xf,zI zL xm,zI zL xr,zI zL xy,.slice xq xk xc],.agg #[.slice p n cap,zI zL (k1:Nat),zI zL En,zI zL E1,zI zL O1]]) zbz rfl ⟨⟨xo,xa,xs,xn,xd,xf,xm,xr,xy,xq,xk,xc⟩,rfl,fun u hu=>?_,zae⟩
  exact absurd hu (by simp)
 ·have hsz:u0.siz<=1000000:=by have:=qO hx;rw[List.length_drop] at this;omega
  have HA:Hid (∀(w:World) (x:NV),NodeA w (fun j=>0<=j) (ag ts En) u0 x->x.a=ag ts En u0.pl):=fun w x hx=>by cases u0;unfold NodeA at hx;exact hx.1.2.1
  replace HA:Hid (∀{lo:Nat} (w:World) (x:NV),ah w lo (ag ts En) u0 x->x.a=ag ts En u0.pl):=fun {lo} w x hx=>by cases u0;unfold ah NodeA at hx;exact hx.1.2.1
  have KS:Hid (∀{lo:Nat} (w:World) (x:NV),ah w lo (ag ts En) u0 x->_):=fun {lo} w x hx=>nS u0 hsz _ _ x w hx
  have KD:Hid (∀{lo:Nat} (w:World) (x:NV),ah w lo (ag ts En) u0 x->_):=fun {lo} w x hx=>kX _ u0 (Nat.le_refl _) hsz _ _ x w hx
  rw[h1] at q1
  clear h1 hx
  obtain⟨σ1,hs⟩:∃x,x=σ.run ts En (rd M0 .ex):=⟨_,rfl⟩
  rw[<-hs] at q1 h2 h3
  clear hs
  obtain⟨σ2,hs2⟩:∃x,x=σ.run ts En (af M0):=⟨_,rfl⟩
  obtain⟨t2,ht2⟩:∃x,x=σ.val ts (af M0):=⟨_,rfl⟩
  rw[<-hs2,<-ht2] at h3 |-
  clear hs2 ht2
  obtain⟨k,E,O⟩:=σ
  obtain⟨k1,E1,O1⟩:=σ1
  simp only at q1 h2 hk h3
  subst h2
  obtain⟨S,hSz⟩:∃S:Nat,S=(if u0.dep<=100/\u0.siz<=400 then u0.siz else 1000):=⟨_,rfl⟩
  have hbig:big u0=true↔(200<S\/20<u0.dep):=by
   unfold big
   simp only[Bool.or_eq_true,decide_eq_true_eq]
   rw[hSz]
   split<;>omega
  rw[<-hSz] at KS
  clear hSz hsz
  generalize u0.dep=D at *
  rcases h3 with ⟨h3,rfl,rfl⟩|⟨h3,rfl,rfl⟩
  ·have hor:=hbig.1 h3
   have KF:=zH (fun a0 w=>bA p n cap (k1:Nat) En 0 O1 2 a0 w)
   clear hbig h3
   by_cases hs:200<S
   ·have hs2:(200:Int)<(S:Int):=by omega
    clear hor hs
    obtain⟨W3,hW3⟩:∃W3,W3=((w.alloc (.cells #[.slice p n cap,zI zL (k:Nat),zI zL En,zI zL E,zI zL O] 62)).alloc (.cells #[zI zL 0,zI zL 0,.string ⟨#[]⟩,zI zL 0,zI zL 0,.bool false,zI zL 0,zI zL 0,zI zL 0,.slice none 0 0] 36)).alloc (.cells #[.slice none 0 0,zI zL 0,zI zL 0,zI zL 0,zI zL 0] 62):=⟨_,rfl⟩
    have F:=zH (Fr.new w p n cap (k:Nat) En E O 62 36)
    rw[<-hW3] at F
    go_enter Tryz.func47,Tryz.ntmps47
    go_wp2_with fail
    rw[<-hW3]
    clear hW3
    obtain⟨c0,c1,c2,c3,c4,f0,f1,f2,f3,f4⟩:=F.out.A
    have lox:=World.block_lt_of_cell? _ _ F.out.R.c0
    refine(q1.out _ (HS.out.bel F.out.B)).mono ?_
    rintro _ v3 ⟨⟨xo,xa,xs,xn,xd,xf,xm,xr,xy,xq,xk,xc⟩,rfl,hn,hb⟩
    have hsx:=hb.size
    replace F:=zH (F.out.bel hb)
    have Nx:=zH hn
    clear hb hn c0 c1 c2 c3 c4 f0 f1 f2 f3 f4
    obtain⟨c0,c1,c2,c3,c4,f0,f1,f2,f3,f4⟩:=F.out.A
    have hvx:=World.block_lt_of_cell? _ _ c0
    go_wp2_with fail
    obtain⟨hF,hK,hX⟩:=F.out.node (zI zL xo) (zI zL xa) (.string xs) (zI zL xn) (zI zL xd) (.bool xf) (zI zL xm) (zI zL xr) (zI zL xy) (.slice xq xk xc) 36 (k1:Nat) 0 O1
    replace F:=zH hF
    have Xx:=zH hX
    replace Nx:=zH (fun u hu=>ah.kept hK zac _ _ (Nx.out u hu))
    have hsx':=hK.size
    clear hF hK hX c0 c1 c2 c3 c4 f0 f1 f2 f3 f4
    generalize ((((((v3.setCell ⟨w.heap.size,0,none⟩ (.slice p n cap)).setCell ⟨w.heap.size,1,none⟩ (zI zL (k1:Nat))).setCell ⟨w.heap.size,2,none⟩ (zI zL En)).setCell ⟨w.heap.size,3,none⟩ (zI zL 0)).setCell ⟨w.heap.size,4,none⟩ (zI zL O1)).alloc (.cells #[zI zL xo,zI zL xa,.string xs,zI zL xn,zI zL xd,.bool xf,zI zL xm,zI zL xr,zI zL xy,.slice xq xk xc] 36))=V1 at *
    generalize v3.heap.size=blx at *
    obtain⟨c0,c1,c2,c3,c4,f0,f1,f2,f3,f4⟩:=F.out.A
    have NX:=zH (Nx.out u0 rfl)
    obtain⟨x0,x1,x2,x3,x4,x5,x6,x7,x8,x9,-,-,-,-,-,-,-,-,-,-⟩:=Xx.out
    have K:=KS.out _ _ NX.out
    simp only[nv] at K
    refine K.mono ?_
    clear K
    rintro _ v5 ⟨rfl,hb⟩
    exact zz39
   ·have hs2:¬(200:Int)<(S:Int):=by omega
    have hd2:(20:Int)<(D:Int):=zac
    clear hor hs
    obtain⟨W3,hW3⟩:∃W3,W3=((w.alloc (.cells #[.slice p n cap,zI zL (k:Nat),zI zL En,zI zL E,zI zL O] 62)).alloc (.cells #[zI zL 0,zI zL 0,.string ⟨#[]⟩,zI zL 0,zI zL 0,.bool false,zI zL 0,zI zL 0,zI zL 0,.slice none 0 0] 36)).alloc (.cells #[.slice none 0 0,zI zL 0,zI zL 0,zI zL 0,zI zL 0] 62):=⟨_,rfl⟩
    have F:=zH (Fr.new w p n cap (k:Nat) En E O 62 36)
    rw[<-hW3] at F
    go_enter Tryz.func47,Tryz.ntmps47
    go_wp2_with fail
    rw[<-hW3]
    clear hW3
    obtain⟨c0,c1,c2,c3,c4,f0,f1,f2,f3,f4⟩:=F.out.A
    have lox:=World.block_lt_of_cell? _ _ F.out.R.c0
    refine(q1.out _ (HS.out.bel F.out.B)).mono ?_
    rintro _ v3 ⟨⟨xo,xa,xs,xn,xd,xf,xm,xr,xy,xq,xk,xc⟩,rfl,hn,hb⟩
    have hsx:=hb.size
    replace F:=zH (F.out.bel hb)
    have Nx:=zH hn
    clear hb hn c0 c1 c2 c3 c4 f0 f1 f2 f3 f4
    obtain⟨c0,c1,c2,c3,c4,f0,f1,f2,f3,f4⟩:=F.out.A
    have hvx:=World.block_lt_of_cell? _ _ c0
    go_wp2_with fail
    obtain⟨hF,hK,hX⟩:=F.out.node (zI zL xo) (zI zL xa) (.string xs) (zI zL xn) (zI zL xd) (.bool xf) (zI zL xm) (zI zL xr) (zI zL xy) (.slice xq xk xc) 36 (k1:Nat) 0 O1
    replace F:=zH hF
    have Xx:=zH hX
    replace Nx:=zH (fun u hu=>ah.kept hK zac _ _ (Nx.out u hu))
    have hsx':=hK.size
    clear hF hK hX c0 c1 c2 c3 c4 f0 f1 f2 f3 f4
    generalize ((((((v3.setCell ⟨w.heap.size,0,none⟩ (.slice p n cap)).setCell ⟨w.heap.size,1,none⟩ (zI zL (k1:Nat))).setCell ⟨w.heap.size,2,none⟩ (zI zL En)).setCell ⟨w.heap.size,3,none⟩ (zI zL 0)).setCell ⟨w.heap.size,4,none⟩ (zI zL O1)).alloc (.cells #[zI zL xo,zI zL xa,.string xs,zI zL xn,zI zL xd,.bool xf,zI zL xm,zI zL xr,zI zL xy,.slice xq xk xc] 36))=V1 at *
    generalize v3.heap.size=blx at *
    obtain⟨c0,c1,c2,c3,c4,f0,f1,f2,f3,f4⟩:=F.out.A
    have NX:=zH (Nx.out u0 rfl)
    obtain⟨x0,x1,x2,x3,x4,x5,x6,x7,x8,x9,-,-,-,-,-,-,-,-,-,-⟩:=Xx.out
    have K:=KS.out _ _ NX.out
    simp only[nv] at K
    refine K.mono ?_
    clear K
    rintro _ v5 ⟨rfl,hb⟩
    replace F:=zH (F.out.bel hb)
    replace Xx:=zH (Xx.out.bel hb)
    replace Nx:=zH (fun u hu=>ah.bel hb _ _ (Nx.out u hu))
    replace NX:=zH (ah.bel hb _ _ NX.out)
    clear hb c0 c1 c2 c3 c4 f0 f1 f2 f3 f4 x0 x1 x2 x3 x4 x5 x6 x7 x8 x9
    obtain⟨x0,x1,x2,x3,x4,x5,x6,x7,x8,x9,-,-,-,-,-,-,-,-,-,-⟩:=Xx.out
    obtain⟨c0,c1,c2,c3,c4,f0,f1,f2,f3,f4⟩:=F.out.A
    go_wp2_with fail
    have K:=KD.out _ _ NX.out
    simp only[nv] at K
    refine K.mono ?_
    clear K
    rintro _ v6 ⟨rfl,hb⟩
    exact zz39
  ·have hno:¬(200<S\/20<D):=fun h=>by rw[hbig.2 h] at h3;cases h3
   have hs2:¬(200:Int)<(S:Int):=zac
   have hd2:¬(20:Int)<(D:Int):=zac
   clear hbig h3 hno
   obtain⟨W3,hW3⟩:∃W3,W3=((w.alloc (.cells #[.slice p n cap,zI zL (k:Nat),zI zL En,zI zL E,zI zL O] 62)).alloc (.cells #[zI zL 0,zI zL 0,.string ⟨#[]⟩,zI zL 0,zI zL 0,.bool false,zI zL 0,zI zL 0,zI zL 0,.slice none 0 0] 36)).alloc (.cells #[.slice none 0 0,zI zL 0,zI zL 0,zI zL 0,zI zL 0] 62):=⟨_,rfl⟩
   have F:=zH (Fr.new w p n cap (k:Nat) En E O 62 36)
   rw[<-hW3] at F
   go_enter Tryz.func47,Tryz.ntmps47
   go_wp2_with fail
   rw[<-hW3]
   clear hW3
   obtain⟨c0,c1,c2,c3,c4,f0,f1,f2,f3,f4⟩:=F.out.A
   have lox:=World.block_lt_of_cell? _ _ F.out.R.c0
   refine(q1.out _ (HS.out.bel F.out.B)).mono ?_
   rintro _ v3 ⟨⟨xo,xa,xs,xn,xd,xf,xm,xr,xy,xq,xk,xc⟩,rfl,hn,hb⟩
   have hsx:=hb.size
   replace F:=zH (F.out.bel hb)
   have Nx:=zH hn
   clear hb hn c0 c1 c2 c3 c4 f0 f1 f2 f3 f4
   obtain⟨c0,c1,c2,c3,c4,f0,f1,f2,f3,f4⟩:=F.out.A
   have hvx:=World.block_lt_of_cell? _ _ c0
   go_wp2_with fail
   obtain⟨hF,hK,hX⟩:=F.out.node (zI zL xo) (zI zL xa) (.string xs) (zI zL xn) (zI zL xd) (.bool xf) (zI zL xm) (zI zL xr) (zI zL xy) (.slice xq xk xc) 36 (k1:Nat) 0 O1
   replace F:=zH hF
   have Xx:=zH hX
   replace Nx:=zH (fun u hu=>ah.kept hK zac _ _ (Nx.out u hu))
   have hsx':=hK.size
   clear hF hK hX c0 c1 c2 c3 c4 f0 f1 f2 f3 f4
   generalize ((((((v3.setCell ⟨w.heap.size,0,none⟩ (.slice p n cap)).setCell ⟨w.heap.size,1,none⟩ (zI zL (k1:Nat))).setCell ⟨w.heap.size,2,none⟩ (zI zL En)).setCell ⟨w.heap.size,3,none⟩ (zI zL 0)).setCell ⟨w.heap.size,4,none⟩ (zI zL O1)).alloc (.cells #[zI zL xo,zI zL xa,.string xs,zI zL xn,zI zL xd,.bool xf,zI zL xm,zI zL xr,zI zL xy,.slice xq xk xc] 36))=V1 at *
   generalize v3.heap.size=blx at *
   obtain⟨c0,c1,c2,c3,c4,f0,f1,f2,f3,f4⟩:=F.out.A
   have NX:=zH (Nx.out u0 rfl)
   obtain⟨x0,x1,x2,x3,x4,x5,x6,x7,x8,x9,-,-,-,-,-,-,-,-,-,-⟩:=Xx.out
   have K:=KS.out _ _ NX.out
   simp only[nv] at K
   refine K.mono ?_
   clear K
   rintro _ v5 ⟨rfl,hb⟩
   replace F:=zH (F.out.bel hb)
   replace Xx:=zH (Xx.out.bel hb)
   replace Nx:=zH (fun u hu=>ah.bel hb _ _ (Nx.out u hu))
   replace NX:=zH (ah.bel hb _ _ NX.out)
   clear hb c0 c1 c2 c3 c4 f0 f1 f2 f3 f4 x0 x1 x2 x3 x4 x5 x6 x7 x8 x9
   obtain⟨x0,x1,x2,x3,x4,x5,x6,x7,x8,x9,-,-,-,-,-,-,-,-,-,-⟩:=Xx.out
   obtain⟨c0,c1,c2,c3,c4,f0,f1,f2,f3,f4⟩:=F.out.A
   go_wp2_with fail
   have K:=KD.out _ _ NX.out
   simp only[nv] at K
   refine K.mono ?_
   clear K
   rintro _ v6 ⟨rfl,hb⟩
   replace F:=zH (F.out.bel hb)
   replace Xx:=zH (Xx.out.bel hb)
   replace Nx:=zH (fun u hu=>ah.bel hb _ _ (Nx.out u hu))
   replace NX:=zH (ah.bel hb _ _ NX.out)
   clear hb c0 c1 c2 c3 c4 f0 f1 f2 f3 f4 x0 x1 x2 x3 x4 x5 x6 x7 x8 x9
   obtain⟨x0,x1,x2,x3,x4,x5,x6,x7,x8,x9,-,-,-,-,-,-,-,-,-,-⟩:=Xx.out
   obtain⟨c0,c1,c2,c3,c4,f0,f1,f2,f3,f4⟩:=F.out.A
   go_wp2_with fail
   clear c0 c1 c2 c3 c4 f0 f1 f2 f3 f4 x0 x1 x2 x3 x4 x5 x6 x7 x8 x9
   have hS:Hid (B10 v6.drew blx (zI zL xo) (zI zL xa) (.string xs) (zI zL xn) (zI zL xd) (.bool xf) (zI zL xm) (zI zL xr) (zI zL xy) (.slice xq xk xc)/\B5 v6.drew w.heap.size (.slice p n cap) (zI zL (k1:Nat)) (zI zL En) (zI zL 0) (zI zL O1)):=⟨Xx.out.bel (Below.refl _ _).drew,F.out.A.bel (Below.refl _ _).drew⟩
   refine wp_region_held (S:=fun w':World=>Hid (B10 w' blx (zI zL xo) (zI zL xa) (.string xs) (zI zL xn) (zI zL xd) (.bool xf) (zI zL xm) (zI zL xr) (zI zL xy) (.slice xq xk xc)/\B5 w' w.heap.size (.slice p n cap) (zI zL (k1:Nat)) (zI zL En) (zI zL 0) (zI zL O1))) mixed ?_
   change wpAnyH _ _ _ _ _ _ _ _ v6.drew
   refine tk0 (v:= .agg #[zI zL xo,zI zL xa,.string xs,zI zL xn,zI zL xd,.bool xf,zI zL xm,zI zL xr,zI zL xy,.slice xq xk xc]) zab zab zab (fun _ _ _ h=>h) (Or.inl ⟨zab,?_⟩) hS ?_
   ·exact Cy
   simp only[Act.put,zA,zB,zC]
   refine tk1 (v:= .agg #[.slice p n cap,zI zL (k1:Nat),zI zL En,zI zL 0,zI zL O1]) zab zab zab (fun _ _ _ h=>h) (Or.inl ⟨zab,?_⟩) hS ?_
   ·exact EM
   simp only[Act.put,zA,zB,zC]
   have hb4:=(Below.refl v6.heap.size v6).drew
   replace F:=zH (F.out.bel hb4)
   replace Nx:=zH (fun u hu=>ah.bel hb4 _ _ (Nx.out u hu))
   clear hb4 Xx
   generalize v6.drew=VE at *
   obtain⟨n0,n1,n2,n3,n4,n5,n6,n7,n8,n9,m0,m1,m2,m3,m4,m5,m6,m7,m8,m9⟩:=F.out.N
   obtain⟨e0,e1,e2,e3,e4,g0,g1,g2,g3,g4⟩:=F.out.R
   have BV:=zH F.out.B
   refine wpAnyH_ready (rs:=[2]) zab (by simp) (st2 (fun K hK=>?_) AllReadyH.nil)
   go_simp
   have hk:=Kept.set10 (Kept.refl (w.heap.size+1) VE) (zI zL xo) (zI zL xa) (.string xs) (zI zL xn) (zI zL xd) (.bool xf) (zI zL xm) (zI zL xr) (zI zL xy) (.slice xq xk xc)
   have hS0:=hS
   replace hS:Hid (B10 _ blx (zI zL xo) (zI zL xa) (.string xs) (zI zL xn) (zI zL xd) (.bool xf) (zI zL xm) (zI zL xr) (zI zL xy) (.slice xq xk xc)/\B5 _ w.heap.size (.slice p n cap) (zI zL (k1:Nat)) (zI zL En) (zI zL 0) (zI zL O1)):=⟨hS0.out.1.kept hk zac,hS0.out.2.kept hk zac⟩
   clear hk hS0
   refine hK.out _ _ ?_ (fun hHeld=>?_)
   ·exact hS
   clear hK K
   try simp only[Act.put,zA,zB,zC]
   refine wpAnyH_ready (rs:=[3]) zab (by simp) (st3 (fun K hK=>?_) AllReadyH.nil)
   go_simp
   have hk:=Kept.set5 (Kept.refl (w.heap.size+2) ((((((((((VE.setCell ⟨w.heap.size+1,0,none⟩ (zI zL xo)).setCell ⟨w.heap.size+1,1,none⟩ (zI zL xa)).setCell ⟨w.heap.size+1,2,none⟩ (.string xs)).setCell ⟨w.heap.size+1,3,none⟩ (zI zL xn)).setCell ⟨w.heap.size+1,4,none⟩ (zI zL xd)).setCell ⟨w.heap.size+1,5,none⟩ (.bool xf)).setCell ⟨w.heap.size+1,6,none⟩ (zI zL xm)).setCell ⟨w.heap.size+1,7,none⟩ (zI zL xr)).setCell ⟨w.heap.size+1,8,none⟩ (zI zL xy)).setCell ⟨w.heap.size+1,9,none⟩ (.slice xq xk xc))) (.slice p n cap) (zI zL (k1:Nat)) (zI zL En) (zI zL 0) (zI zL O1)
   have hS0:=hS
   replace hS:Hid (B10 _ blx (zI zL xo) (zI zL xa) (.string xs) (zI zL xn) (zI zL xd) (.bool xf) (zI zL xm) (zI zL xr) (zI zL xy) (.slice xq xk xc)/\B5 _ w.heap.size (.slice p n cap) (zI zL (k1:Nat)) (zI zL En) (zI zL 0) (zI zL O1)):=⟨hS0.out.1.kept hk zac,hS0.out.2.kept hk zac⟩
   clear hk hS0
   refine hK.out _ _ ?_ (fun hHeld=>?_)
   ·exact hS
   clear hK K
   try simp only[Act.put,zA,zB,zC]
   refine wpAnyH_done zab ?_ _
   go_wp2_with fail
   refine bodyPost_ret (v:= .tuple #[.agg #[zI zL xo,zI zL xa,.string xs,zI zL xn,zI zL xd,.bool xf,zI zL xm,zI zL xr,zI zL xy,.slice xq xk xc],.agg #[.slice p n cap,zI zL (k1:Nat),zI zL En,zI zL 0,zI zL O1]]) zbz rfl ⟨⟨xo,xa,xs,xn,xd,xf,xm,xr,xy,xq,xk,xc⟩,rfl,fun u hu=>?_,zae⟩
   cases hu
   have h3:ah VE (w.heap.size+3) (ag ts En) u0 ⟨xo,xa,xs,xn,xd,xf,xm,xr,xy,xq,xk,xc⟩:=ah.keep (Kfr.refl _ _) zac _ _ (Nx.out u0 rfl)
   refine ah.keep (lo:=w.heap.size+3) ?_ zac _ _ h3
   repeat' (first|(with_reducible exact Kfr.refl _ _)|(with_reducible refine Kfr.set ?_ zac _ _ _))
section
variable {ts:List Tok} {p:Option Addr} {b off cap n En:Nat}
theorem lH (t:List Tok):Pa.Good t true (nameO t):=by
 unfold nameO
 split
 ·exact bH _ _
 ·rename_i x r
  split
  ·rename_i h
   refine aG ?_ (s:=false) (aL _ _)
   have hk:x.k=1/\x.t≠sSc:=by simp[isA] at h;exact⟨h.1.1,h.2⟩
   unfold isT
   simp[hk.2]
  ·exact bH _ _
theorem fo (t:List Tok):Pa.Good t true (ae t):=by
 unfold ae
 split
 ·exact bH _ _
 ·rename_i x r
  split
  ·rename_i h
   split
   ·refine aG ?_ (s:=false) (aL _ _)
    unfold isT
    simp[h]
   ·exact⟨.inr (.inl rfl),by simp,by simp,[],x::r,rfl,rfl,iG⟩
  ·exact bH _ _
theorem kU (t:List Tok):Pa.Good t true (unitO t):=by
 unfold unitO
 cases h:which units t with
 | none=>exact bH _ _
 | some u =>
  simp only
  obtain⟨x,r,rfl⟩:∃x r,t=x::r:=by
   cases t with
   | nil=>exact absurd rfl (ek _ _ _ h).2
   | cons x r=>exact⟨x,r,rfl⟩
  refine aG ?_ (s:=false) (aL _ _)
  by_cases hx:isT sSc x=true
  ·exfalso
   simp only[isT,Bool.and_eq_true,decide_eq_true_eq,beq_iff_eq] at hx
   have:which units (x::r)=none:=oV fun s hs=>by
    show isT s x=false
    unfold isT
    rw[hx.2]
    have:∀s∈units,(sSc==s)=false:=zah
    rw[this s hs,Bool.and_false]
   rw[this] at h
   cases h
  ·simpa using hx
def FT (w:World)(p:Option Addr)(n cap En:Nat)(k E O:Int)(t:Option (List UInt8))(e:Ending)(w':World):Prop:=∃s:ByteArray,e = .returned (.tuple #[.string s,.agg #[.slice p n cap,zI zL k,zI zL En,zI zL E,zI zL O]])/\(∀u,t=some u->s=bs u)/\RowKit.Below w.heap.size w w'
theorem lK (hT:eQ ts)(σ:Sg)(hk:σ.k<=n)(w:World)(hS:SlT w p b off n ts):Calls Tryz.prog 41 #[.agg #[.slice p n cap,zI zL (σ.k:Nat),zI zL En,zI zL σ.E,zI zL σ.O]] w fun e w'=>FT w p n cap En ((σ.run ts En nameO).k:Nat) (σ.run ts En nameO).E (σ.run ts En nameO).O (σ.val ts nameO) e w':=by
 have hl:=hS.ln
 obtain⟨k,E,O⟩:=σ
 simp only at hk |-
 by_cases h0:E=0
 ·subst h0
  cases hA:isA (ts.drop k) with
  | true =>
   have hkt:k<ts.length:=by
    rcases Nat.lt_or_ge k ts.length with z|z
    ·exact z
    ·rw[List.drop_eq_nil_of_le z] at hA;cases hA
   have hd:ts.drop k=ts[k]::ts.drop (k+1):=List.drop_eq_getElem_cons hkt
   have e:nameO (ts.drop k) = .ok ts[k].t (ts.drop (k+1)):=by rw[hd] at hA |-;simp only[nameO];rw[if_pos hA]
   obtain⟨r1,r2⟩:=fJ (En:=En) (O:=O) e zac
   rw[r1,r2]
   refine(yN ts p b off cap n k En O w hS (zx hT) hA hkt).mono ?_
   rintro _ w' ⟨rfl,hb⟩
   exact⟨_,rfl,fun u hu=>by cases hu;rfl,hb⟩
  | false =>
   have e:nameO (ts.drop k) = .er 10 (n-k) (n-k):=by
    have:nameO (ts.drop k)=bad (ts.drop k):=by
     cases hd:ts.drop k with
     | nil=>rfl
     | cons x r=>rw[hd] at hA;simp only[nameO];rw[if_neg (by rw[hA];simp)]
    rw[this];unfold bad;rw[List.length_drop,hl]
   obtain⟨r1,r2⟩:=iJ (En:=En) (O:=O) e (show ts.length-(n-k)=k from zac)
   rw[r1,r2]
   refine(lu ts p b off cap n k En 0 O w hS hk (zx hT) (.inr ⟨rfl,hA⟩)).mono ?_
   rintro _ w' ⟨rfl,hb⟩
   rw[if_pos rfl,if_pos rfl]
   exact⟨_,rfl,(fun u hu=>by cases hu),hb⟩
 ·rw[dx h0,dZ h0]
  refine(lu ts p b off cap n k En E O w hS hk (zx hT) (.inl h0)).mono ?_
  rintro _ w' ⟨rfl,hb⟩
  rw[if_neg h0,if_neg h0]
  exact⟨_,rfl,(fun u hu=>by cases hu),hb⟩
def Et (w:World)(p:Option Addr)(n cap En:Nat)(k E O:Int)(t:Option Int)(e:Ending)(w':World):Prop:=∃s:Int,e = .returned (.tuple #[zI zL s,.agg #[.slice p n cap,zI zL k,zI zL En,zI zL E,zI zL O]])/\(∀u,t=some u->s=u)/\RowKit.Below w.heap.size w w'
theorem ed (σ:Sg)(hk:σ.k<=n)(w:World)(hS:SlT w p b off n ts):Calls Tryz.prog 45 #[.agg #[.slice p n cap,zI zL (σ.k:Nat),zI zL En,zI zL σ.E,zI zL σ.O]] w fun e w'=>Et w p n cap En ((σ.run ts En ae).k:Nat) (σ.run ts En ae).E (σ.run ts En ae).O (σ.val ts ae) e w':=by
 have hl:=hS.ln
 obtain⟨k,E,O⟩:=σ
 simp only at hk |-
 by_cases h0:E=0
 ·subst h0
  cases hA:isN (ts.drop k) with
  | true =>
   have hkt:k<ts.length:=by
    rcases Nat.lt_or_ge k ts.length with z|z
    ·exact z
    ·rw[List.drop_eq_nil_of_le z] at hA;cases hA
   have hd:ts.drop k=ts[k]::ts.drop (k+1):=List.drop_eq_getElem_cons hkt
   have hk2:ts[k].k=2:=by rw[hd] at hA;simpa[isN] using hA
   by_cases h1:ts[k].d=1
   ·have e:ae (ts.drop k) = .ok ts[k].n (ts.drop (k+1)):=by rw[hd];simp only[ae];rw[if_pos hk2,if_pos h1]
    obtain⟨r1,r2⟩:=fJ (En:=En) (O:=O) e zac
    rw[r1,r2]
    refine(wG ts p b off cap n k En O w hS hA hkt h1).mono ?_
    rintro _ w' ⟨rfl,hb⟩
    exact⟨_,rfl,fun u hu=>by cases hu;rfl,hb⟩
   ·have e:ae (ts.drop k) = .er 3 (n-k) (n-k):=by
     rw[hd];simp only[ae];rw[if_pos hk2,if_neg h1,List.length_drop,show ts.length-(k+1)+1=n-k from zac]
    obtain⟨r1,r2⟩:=iJ (En:=En) (O:=O) e (show ts.length-(n-k)=k from zac)
    rw[r1,r2]
    refine(ry ts p b off cap n k En O w hS hA hkt h1).mono ?_
    rintro _ w' ⟨rfl,hb⟩
    exact⟨_,rfl,(fun u hu=>by cases hu),hb⟩
  | false =>
   have e:ae (ts.drop k) = .er 10 (n-k) (n-k):=by
    have:ae (ts.drop k)=bad (ts.drop k):=by
     cases hd:ts.drop k with
     | nil=>rfl
     | cons x r=>rw[hd] at hA;simp only[ae];rw[if_neg (by simpa[isN] using hA)]
    rw[this];unfold bad;rw[List.length_drop,hl]
   obtain⟨r1,r2⟩:=iJ (En:=En) (O:=O) e (show ts.length-(n-k)=k from zac)
   rw[r1,r2]
   refine(kE ts p b off cap n k En 0 O w hS hk (.inr ⟨rfl,hA⟩)).mono ?_
   rintro _ w' ⟨rfl,hb⟩
   rw[if_pos rfl,if_pos rfl]
   exact⟨_,rfl,(fun u hu=>by cases hu),hb⟩
 ·rw[dx h0,dZ h0]
  refine(kE ts p b off cap n k En E O w hS hk (.inl h0)).mono ?_
  rintro _ w' ⟨rfl,hb⟩
  rw[if_neg h0,if_neg h0]
  exact⟨_,rfl,(fun u hu=>by cases hu),hb⟩
theorem Ce (σ:Sg)(hk:σ.k<=ts.length) :
  (∃u,u<5/\σ.E=0/\σ.k<ts.length/\which units (ts.drop σ.k)=some u/\σ.run ts En unitO=⟨σ.k+1,0,σ.O⟩/\σ.val ts unitO=some u) \/
  ((σ.E≠0\/which units (ts.drop σ.k)=none)/\σ.run ts En unitO=⟨σ.k,if σ.E=0 then 10 else σ.E,if σ.E=0 then ag ts En (ts.length-σ.k) else σ.O⟩/\σ.val ts unitO=none):=by
 obtain⟨k,E,O⟩:=σ
 simp only at hk |-
 by_cases h0:E=0
 ·subst h0
  cases h:which units (ts.drop k) with
  | none =>
   have e:unitO (ts.drop k) = .er 10 (ts.length-k) (ts.length-k):=by unfold unitO;rw[h];simp only[bad,List.length_drop]
   obtain⟨r1,r2⟩:=iJ (En:=En) (O:=O) e (show ts.length-(ts.length-k)=k from zac)
   exact .inr ⟨.inr rfl,r1,r2⟩
  | some u =>
   obtain⟨h1,h2⟩:=ek _ _ _ h
   have hkt:k<ts.length:=by
    rcases Nat.lt_or_ge k ts.length with z|z
    ·exact z
    ·exact absurd (List.drop_eq_nil_of_le z) h2
   have e:unitO (ts.drop k) = .ok u (ts.drop (k+1)):=by unfold unitO;rw[h];simp only[List.tail_drop]
   obtain⟨r1,r2⟩:=fJ (En:=En) (O:=O) e zac
   exact .inl ⟨u,by simpa[units] using h1,rfl,hkt,rfl,r1,r2⟩
 ·exact .inr ⟨.inl h0,by rw[dx (σ:=⟨k,E,O⟩) h0,if_neg h0,if_neg h0],dZ (σ:=⟨k,E,O⟩) h0 _⟩
end
theorem bind_assoc {α β γ:Type}(x:Out α)(f:α->List Tok->Out β)(g:β->List Tok->Out γ):(x.bind f).bind g=x.bind fun a r=>(f a r).bind g:=by cases x<;>rfl
theorem tY {α:Type}{ts:List Tok}{En:Nat}{σ:Sg}(a:α):σ.run ts En (fun r=>(need sSc r).bind fun _ r=> .ok a r)=σ.run ts En (need sSc)/\σ.val ts (fun r=>(need sSc r).bind fun _ r=> .ok a r)=if (σ.run ts En (need sSc)).E=0 then some a else none:=by
 by_cases h0:σ.E=0
 ·unfold Sg.run Sg.val
  rw[if_pos h0,if_pos h0,if_pos h0]
  unfold need
  cases hw:isW sSc (ts.drop σ.k) with
  | true=>simp[outT,hw]
  | false=>simp[bad,outT,hw]
 ·rw[dx h0,dx h0,dZ h0,if_neg h0];exact⟨rfl,rfl⟩
theorem rA {ts:List Tok}{En:Nat}(σ:Sg)(hk:σ.k<=ts.length):∃σ1 σ2 σ3 σ4 σ5 σ6 σ7:Sg,σ1=σ.run ts En (need dU)/\σ2=σ1.run ts En (nameO)/\σ3=σ2.run ts En (need sCo)/\σ4=σ3.run ts En (unitO)/\σ5=σ4.run ts En (ae)/\σ6=σ5.run ts En (need kTo)/\σ7=σ6.run ts En (ae)/\(σ.k<=σ1.k/\σ1.k<=ts.length/\σ1.k<=σ2.k/\σ2.k<=ts.length/\σ2.k<=σ3.k/\σ3.k<=ts.length/\σ3.k<=σ4.k/\σ4.k<=ts.length/\σ4.k<=σ5.k/\σ5.k<=ts.length/\σ5.k<=σ6.k/\σ6.k<=ts.length/\σ6.k<=σ7.k/\σ7.k<=ts.length) /\
  σ.run ts En (fun t=>(lT t).bind fun d r=>(need sSc r).bind fun _ r=> .ok d r)=σ7.run ts En (need sSc)/\∀d,σ.val ts (fun t=>(lT t).bind fun d r=>(need sSc r).bind fun _ r=> .ok d r)=some d->(σ7.run ts En (need sSc)).E=0/\∃nm u lo hi,σ1.val ts (nameO)=some nm/\σ3.val ts (unitO)=some u/\σ4.val ts (ae)=some lo/\σ6.val ts (ae)=some hi/\d=(⟨nm,u,lo,hi,ts.length-σ.k⟩:Pa.Decl):=by
 obtain⟨σ1,hs1⟩:∃x,x=σ.run ts En (need dU):=⟨_,rfl⟩
 have k1:=au (En:=En) (σ:=σ) (aJ dU zah (ts.drop σ.k)) zac
 rw[<-hs1] at k1
 obtain⟨σ2,hs2⟩:∃x,x=σ1.run ts En (nameO):=⟨_,rfl⟩
 have k2:=au (En:=En) (σ:=σ1) (lH (ts.drop σ1.k)) zac
 rw[<-hs2] at k2
 obtain⟨σ3,hs3⟩:∃x,x=σ2.run ts En (need sCo):=⟨_,rfl⟩
 have k3:=au (En:=En) (σ:=σ2) (aJ sCo zah (ts.drop σ2.k)) zac
 rw[<-hs3] at k3
 obtain⟨σ4,hs4⟩:∃x,x=σ3.run ts En (unitO):=⟨_,rfl⟩
 have k4:=au (En:=En) (σ:=σ3) (kU (ts.drop σ3.k)) zac
 rw[<-hs4] at k4
 obtain⟨σ5,hs5⟩:∃x,x=σ4.run ts En (ae):=⟨_,rfl⟩
 have k5:=au (En:=En) (σ:=σ4) (fo (ts.drop σ4.k)) zac
 rw[<-hs5] at k5
 obtain⟨σ6,hs6⟩:∃x,x=σ5.run ts En (need kTo):=⟨_,rfl⟩
 have k6:=au (En:=En) (σ:=σ5) (aJ kTo zah (ts.drop σ5.k)) zac
 rw[<-hs6] at k6
 obtain⟨σ7,hs7⟩:∃x,x=σ6.run ts En (ae):=⟨_,rfl⟩
 have k7:=au (En:=En) (σ:=σ6) (fo (ts.drop σ6.k)) zac
 rw[<-hs7] at k7
 have he:∀t,t=ts.drop σ.k->(lT t).bind (fun d r=>(need sSc r).bind fun _ r=> .ok d r)=(need dU t).bind fun _a r0=>(nameO r0).bind fun nm r1=>(need sCo r1).bind fun _b r2=>(unitO r2).bind fun u r3=>(ae r3).bind fun lo r4=>(need kTo r4).bind fun _c r5=>(ae r5).bind fun hi r6=>(need sSc r6).bind fun _ r7=> .ok (⟨nm,u,lo,hi,ts.length-σ.k⟩:Pa.Decl) r7:=fun t ht=>by
  unfold lT
  simp only[bind_assoc,bind_ok]
  rw[ht,List.length_drop]
 have hst:=eD (ts:=ts) (En:=En) (σ:=σ) (o:=fun t=>(lT t).bind fun d r=>(need sSc r).bind fun _ r=> .ok d r) (o':=fun r=>(need dU r).bind fun _a r0=>(nameO r0).bind fun nm r1=>(need sCo r1).bind fun _b r2=>(unitO r2).bind fun u r3=>(ae r3).bind fun lo r4=>(need kTo r4).bind fun _c r5=>(ae r5).bind fun hi r6=>(need sSc r6).bind fun _ r7=> .ok (⟨nm,u,lo,hi,ts.length-σ.k⟩:Pa.Decl) r7) (he _ rfl)
 obtain⟨r1,r2⟩:=aQ (En:=En) () (fun _a=>(σ1.val ts (nameO)).bind fun nm=>(σ2.val ts (need sCo)).bind fun _b=>(σ3.val ts (unitO)).bind fun u=>(σ4.val ts (ae)).bind fun lo=>(σ5.val ts (need kTo)).bind fun _c=>(σ6.val ts (ae)).bind fun hi=>if (σ7.run ts En (need sSc)).E=0 then some ((⟨nm,u,lo,hi,ts.length-σ.k⟩:Pa.Decl):Pa.Decl) else none) (aJ dU zah _) zac hs1 (fun _ _a =>
  aQ (En:=En) [] (fun nm=>(σ2.val ts (need sCo)).bind fun _b=>(σ3.val ts (unitO)).bind fun u=>(σ4.val ts (ae)).bind fun lo=>(σ5.val ts (need kTo)).bind fun _c=>(σ6.val ts (ae)).bind fun hi=>if (σ7.run ts En (need sSc)).E=0 then some ((⟨nm,u,lo,hi,ts.length-σ.k⟩:Pa.Decl):Pa.Decl) else none) (lH _) zac hs2 (fun _ nm =>
  aQ (En:=En) () (fun _b=>(σ3.val ts (unitO)).bind fun u=>(σ4.val ts (ae)).bind fun lo=>(σ5.val ts (need kTo)).bind fun _c=>(σ6.val ts (ae)).bind fun hi=>if (σ7.run ts En (need sSc)).E=0 then some ((⟨nm,u,lo,hi,ts.length-σ.k⟩:Pa.Decl):Pa.Decl) else none) (aJ sCo zah _) zac hs3 (fun _ _b =>
  aQ (En:=En) 0 (fun u=>(σ4.val ts (ae)).bind fun lo=>(σ5.val ts (need kTo)).bind fun _c=>(σ6.val ts (ae)).bind fun hi=>if (σ7.run ts En (need sSc)).E=0 then some ((⟨nm,u,lo,hi,ts.length-σ.k⟩:Pa.Decl):Pa.Decl) else none) (kU _) zac hs4 (fun _ u =>
  aQ (En:=En) 0 (fun lo=>(σ5.val ts (need kTo)).bind fun _c=>(σ6.val ts (ae)).bind fun hi=>if (σ7.run ts En (need sSc)).E=0 then some ((⟨nm,u,lo,hi,ts.length-σ.k⟩:Pa.Decl):Pa.Decl) else none) (fo _) zac hs5 (fun _ lo =>
  aQ (En:=En) () (fun _c=>(σ6.val ts (ae)).bind fun hi=>if (σ7.run ts En (need sSc)).E=0 then some ((⟨nm,u,lo,hi,ts.length-σ.k⟩:Pa.Decl):Pa.Decl) else none) (aJ kTo zah _) zac hs6 (fun _ _c =>
  aQ (En:=En) 0 (fun hi=>if (σ7.run ts En (need sSc)).E=0 then some ((⟨nm,u,lo,hi,ts.length-σ.k⟩:Pa.Decl):Pa.Decl) else none) (fo _) zac hs7 (fun _ hi =>
  tY (⟨nm,u,lo,hi,ts.length-σ.k⟩:Pa.Decl))))))))
 refine⟨σ1,σ2,σ3,σ4,σ5,σ6,σ7,hs1,hs2,hs3,hs4,hs5,hs6,hs7,⟨k1.2,k1.1,k2.2,k2.1,k3.2,k3.1,k4.2,k4.1,k5.2,k5.1,k6.2,k6.1,k7.2,k7.1⟩,hst.1.trans r1,fun d hd=>?_⟩
 rw[hst.2,r2] at hd
 simp only[Option.bind_eq_some_iff] at hd
 obtain⟨_,-,nm,h1,_,-,u,h3,lo,h4,_,-,hi,h6,hd⟩:=hd
 split at hd
 ·rename_i hz
  simp only[Option.some.injEq] at hd
  exact⟨hz,nm,u,lo,hi,h1,h3,h4,h6,hd.symm⟩
 ·cases hd
theorem lC (t:List Tok):Pa.Good t false (aI bC nameO [] t):=dR (s:=true) zah (fun r=>eG r) t
theorem lg (t:List Tok):Pa.Good t false (aI aV ae 36525 t):=dR (s:=true) zah (fun r=>aU r) t
theorem nL (M:Int->Int->Int×Int×Int)(d:Tree)(t:List Tok):Pa.Good t false (aI bD (af M) d t):=dR (s:=true) zah (fun r=>dS r) t
theorem ni (M:Int->Int->Int×Int×Int)(d:Tree)(t:List Tok):Pa.Good t false (aI bi (af M) d t):=dR (s:=true) zah (fun r=>dS r) t
theorem mK {α:Type}{ts:List Tok}{En:Nat}(w:List UInt8)(p:List Tok->Out α)(d:α)(σ:Sg)(hk:σ.k<=ts.length) :
  (σ.E=0/\σ.k<ts.length/\isW w (ts.drop σ.k)=true/\σ.run ts En (aI w p d)=(Sg.mk (σ.k+1) 0 σ.O).run ts En p/\σ.val ts (aI w p d)=(Sg.mk (σ.k+1) 0 σ.O).val ts p) \/
  ((σ.E≠0\/isW w (ts.drop σ.k)=false)/\σ.run ts En (aI w p d)=σ/\σ.val ts (aI w p d)=if σ.E=0 then some d else none):=by
 obtain⟨k,E,O⟩:=σ
 simp only at hk |-
 by_cases h0:E=0
 ·subst h0
  cases h:isW w (ts.drop k) with
  | true =>
   have hkt:k<ts.length:=by
    rcases Nat.lt_or_ge k ts.length with z|z
    ·exact z
    ·rw[List.drop_eq_nil_of_le z] at h;cases h
   have e:aI w p d (ts.drop k)=p (ts.drop (k+1)):=by unfold aI;rw[if_pos h,List.tail_drop]
   obtain⟨r1,r2⟩:=dM (ts:=ts) (En:=En) (O:=O) (o:=aI w p d) (o':=p) e
   exact .inl ⟨rfl,hkt,rfl,r1,r2⟩
  | false =>
   have e:aI w p d (ts.drop k) = .ok d (ts.drop k):=by unfold aI;rw[if_neg (by rw[h];simp)]
   obtain⟨r1,r2⟩:=fJ (En:=En) (O:=O) e hk
   exact .inr ⟨.inr rfl,r1,r2⟩
 ·exact .inr ⟨.inl h0,dx (σ:=⟨k,E,O⟩) h0 _,by rw[if_neg h0];exact dZ (σ:=⟨k,E,O⟩) h0 _⟩
theorem sW {ts:List Tok}{En:Nat}{M:Int->Int->Int×Int×Int}(pl:Nat)(kd:Nat)(σ:Sg)(hk:σ.k<=ts.length):∃σ1 σ2 σ3 σ4 σ5 σ6 σ7 σ8 σ9 σ10:Sg,σ1=σ.run ts En (nameO)/\σ2=σ1.run ts En (ae)/\σ3=σ2.run ts En (aI bC nameO [])/\σ4=σ3.run ts En (need dK)/\σ5=σ4.run ts En (ae)/\σ6=σ5.run ts En (aI aV ae 36525)/\σ7=σ6.run ts En (need bf)/\σ8=σ7.run ts En (ae)/\σ9=σ8.run ts En (aI bD (af M) (aN pl))/\σ10=σ9.run ts En (aI bi (af M) (aK pl))/\(σ.k<=σ1.k/\σ1.k<=ts.length/\σ1.k<=σ2.k/\σ2.k<=ts.length/\σ2.k<=σ3.k/\σ3.k<=ts.length/\σ3.k<=σ4.k/\σ4.k<=ts.length/\σ4.k<=σ5.k/\σ5.k<=ts.length/\σ5.k<=σ6.k/\σ6.k<=ts.length/\σ6.k<=σ7.k/\σ7.k<=ts.length/\σ7.k<=σ8.k/\σ8.k<=ts.length/\σ8.k<=σ9.k/\σ9.k<=ts.length/\σ9.k<=σ10.k/\σ10.k<=ts.length) /\
  σ.run ts En (fun r=>(nameO r).bind fun nm r0=>(ae r0).bind fun v r1=>(aI bC nameO [] r1).bind fun act r2=>(need dK r2).bind fun _b r3=>(ae r3).bind fun fr r4=>(aI aV ae 36525 r4).bind fun un r5=>(need bf r5).bind fun _c r6=>(ae r6).bind fun kn r7=>(aI bD (af M) (aN pl) r7).bind fun wh r8=>(aI bi (af M) (aK pl) r8).bind fun gi r9=>(need sSc r9).bind fun _ r10=> .ok (⟨nm,v,kd,act,fr,un,kn,wh,gi,pl⟩:Pa.Rule) r10)=σ10.run ts En (need sSc)/\∀d,σ.val ts (fun r=>(nameO r).bind fun nm r0=>(ae r0).bind fun v r1=>(aI bC nameO [] r1).bind fun act r2=>(need dK r2).bind fun _b r3=>(ae r3).bind fun fr r4=>(aI aV ae 36525 r4).bind fun un r5=>(need bf r5).bind fun _c r6=>(ae r6).bind fun kn r7=>(aI bD (af M) (aN pl) r7).bind fun wh r8=>(aI bi (af M) (aK pl) r8).bind fun gi r9=>(need sSc r9).bind fun _ r10=> .ok (⟨nm,v,kd,act,fr,un,kn,wh,gi,pl⟩:Pa.Rule) r10)=some d->(σ10.run ts En (need sSc)).E=0/\∃nm v act fr un kn wh gi,σ.val ts (nameO)=some nm/\σ1.val ts (ae)=some v/\σ2.val ts (aI bC nameO [])=some act/\σ4.val ts (ae)=some fr/\σ5.val ts (aI aV ae 36525)=some un/\σ7.val ts (ae)=some kn/\σ8.val ts (aI bD (af M) (aN pl))=some wh/\σ9.val ts (aI bi (af M) (aK pl))=some gi/\d=(⟨nm,v,kd,act,fr,un,kn,wh,gi,pl⟩:Pa.Rule):=by
 obtain⟨σ1,hs1⟩:∃x,x=σ.run ts En (nameO):=⟨_,rfl⟩
 have k1:=au (En:=En) (σ:=σ) (eG (ts.drop σ.k)) zac
 rw[<-hs1] at k1
 obtain⟨σ2,hs2⟩:∃x,x=σ1.run ts En (ae):=⟨_,rfl⟩
 have k2:=au (En:=En) (σ:=σ1) (aU (ts.drop σ1.k)) zac
 rw[<-hs2] at k2
 obtain⟨σ3,hs3⟩:∃x,x=σ2.run ts En (aI bC nameO []):=⟨_,rfl⟩
 have k3:=au (En:=En) (σ:=σ2) (lC (ts.drop σ2.k)) zac
 rw[<-hs3] at k3
 obtain⟨σ4,hs4⟩:∃x,x=σ3.run ts En (need dK):=⟨_,rfl⟩
 have k4:=au (En:=En) (σ:=σ3) (aJ dK zah (ts.drop σ3.k)) zac
 rw[<-hs4] at k4
 obtain⟨σ5,hs5⟩:∃x,x=σ4.run ts En (ae):=⟨_,rfl⟩
 have k5:=au (En:=En) (σ:=σ4) (aU (ts.drop σ4.k)) zac
 rw[<-hs5] at k5
 obtain⟨σ6,hs6⟩:∃x,x=σ5.run ts En (aI aV ae 36525):=⟨_,rfl⟩
 have k6:=au (En:=En) (σ:=σ5) (lg (ts.drop σ5.k)) zac
 rw[<-hs6] at k6
 obtain⟨σ7,hs7⟩:∃x,x=σ6.run ts En (need bf):=⟨_,rfl⟩
 have k7:=au (En:=En) (σ:=σ6) (aJ bf zah (ts.drop σ6.k)) zac
 rw[<-hs7] at k7
 obtain⟨σ8,hs8⟩:∃x,x=σ7.run ts En (ae):=⟨_,rfl⟩
 have k8:=au (En:=En) (σ:=σ7) (aU (ts.drop σ7.k)) zac
 rw[<-hs8] at k8
 obtain⟨σ9,hs9⟩:∃x,x=σ8.run ts En (aI bD (af M) (aN pl)):=⟨_,rfl⟩
 have k9:=au (En:=En) (σ:=σ8) (nL M (aN pl) (ts.drop σ8.k)) zac
 rw[<-hs9] at k9
 obtain⟨σ10,hs10⟩:∃x,x=σ9.run ts En (aI bi (af M) (aK pl)):=⟨_,rfl⟩
 have k10:=au (En:=En) (σ:=σ9) (ni M (aK pl) (ts.drop σ9.k)) zac
 rw[<-hs10] at k10
 have he:∀t,t=ts.drop σ.k->(fun r=>(nameO r).bind fun nm r0=>(ae r0).bind fun v r1=>(aI bC nameO [] r1).bind fun act r2=>(need dK r2).bind fun _b r3=>(ae r3).bind fun fr r4=>(aI aV ae 36525 r4).bind fun un r5=>(need bf r5).bind fun _c r6=>(ae r6).bind fun kn r7=>(aI bD (af M) (aN pl) r7).bind fun wh r8=>(aI bi (af M) (aK pl) r8).bind fun gi r9=>(need sSc r9).bind fun _ r10=> .ok (⟨nm,v,kd,act,fr,un,kn,wh,gi,pl⟩:Pa.Rule) r10) t=(fun r=>(nameO r).bind fun nm r0=>(ae r0).bind fun v r1=>(aI bC nameO [] r1).bind fun act r2=>(need dK r2).bind fun _b r3=>(ae r3).bind fun fr r4=>(aI aV ae 36525 r4).bind fun un r5=>(need bf r5).bind fun _c r6=>(ae r6).bind fun kn r7=>(aI bD (af M) (aN pl) r7).bind fun wh r8=>(aI bi (af M) (aK pl) r8).bind fun gi r9=>(need sSc r9).bind fun _ r10=> .ok (⟨nm,v,kd,act,fr,un,kn,wh,gi,pl⟩:Pa.Rule) r10) t:=fun t _=>rfl
 have hst:=eD (ts:=ts) (En:=En) (σ:=σ) (o:=fun r=>(nameO r).bind fun nm r0=>(ae r0).bind fun v r1=>(aI bC nameO [] r1).bind fun act r2=>(need dK r2).bind fun _b r3=>(ae r3).bind fun fr r4=>(aI aV ae 36525 r4).bind fun un r5=>(need bf r5).bind fun _c r6=>(ae r6).bind fun kn r7=>(aI bD (af M) (aN pl) r7).bind fun wh r8=>(aI bi (af M) (aK pl) r8).bind fun gi r9=>(need sSc r9).bind fun _ r10=> .ok (⟨nm,v,kd,act,fr,un,kn,wh,gi,pl⟩:Pa.Rule) r10) (o':=fun r=>(nameO r).bind fun nm r0=>(ae r0).bind fun v r1=>(aI bC nameO [] r1).bind fun act r2=>(need dK r2).bind fun _b r3=>(ae r3).bind fun fr r4=>(aI aV ae 36525 r4).bind fun un r5=>(need bf r5).bind fun _c r6=>(ae r6).bind fun kn r7=>(aI bD (af M) (aN pl) r7).bind fun wh r8=>(aI bi (af M) (aK pl) r8).bind fun gi r9=>(need sSc r9).bind fun _ r10=> .ok (⟨nm,v,kd,act,fr,un,kn,wh,gi,pl⟩:Pa.Rule) r10) (he _ rfl)
 obtain⟨r1,r2⟩:=aQ (En:=En) [] (fun nm=>(σ1.val ts (ae)).bind fun v=>(σ2.val ts (aI bC nameO [])).bind fun act=>(σ3.val ts (need dK)).bind fun _b=>(σ4.val ts (ae)).bind fun fr=>(σ5.val ts (aI aV ae 36525)).bind fun un=>(σ6.val ts (need bf)).bind fun _c=>(σ7.val ts (ae)).bind fun kn=>(σ8.val ts (aI bD (af M) (aN pl))).bind fun wh=>(σ9.val ts (aI bi (af M) (aK pl))).bind fun gi=>if (σ10.run ts En (need sSc)).E=0 then some ((⟨nm,v,kd,act,fr,un,kn,wh,gi,pl⟩:Pa.Rule):Pa.Rule) else none) (eG _) zac hs1 (fun _ nm =>
  aQ (En:=En) 0 (fun v=>(σ2.val ts (aI bC nameO [])).bind fun act=>(σ3.val ts (need dK)).bind fun _b=>(σ4.val ts (ae)).bind fun fr=>(σ5.val ts (aI aV ae 36525)).bind fun un=>(σ6.val ts (need bf)).bind fun _c=>(σ7.val ts (ae)).bind fun kn=>(σ8.val ts (aI bD (af M) (aN pl))).bind fun wh=>(σ9.val ts (aI bi (af M) (aK pl))).bind fun gi=>if (σ10.run ts En (need sSc)).E=0 then some ((⟨nm,v,kd,act,fr,un,kn,wh,gi,pl⟩:Pa.Rule):Pa.Rule) else none) (aU _) zac hs2 (fun _ v =>
  aQ (En:=En) [] (fun act=>(σ3.val ts (need dK)).bind fun _b=>(σ4.val ts (ae)).bind fun fr=>(σ5.val ts (aI aV ae 36525)).bind fun un=>(σ6.val ts (need bf)).bind fun _c=>(σ7.val ts (ae)).bind fun kn=>(σ8.val ts (aI bD (af M) (aN pl))).bind fun wh=>(σ9.val ts (aI bi (af M) (aK pl))).bind fun gi=>if (σ10.run ts En (need sSc)).E=0 then some ((⟨nm,v,kd,act,fr,un,kn,wh,gi,pl⟩:Pa.Rule):Pa.Rule) else none) (lC _) zac hs3 (fun _ act =>
  aQ (En:=En) () (fun _b=>(σ4.val ts (ae)).bind fun fr=>(σ5.val ts (aI aV ae 36525)).bind fun un=>(σ6.val ts (need bf)).bind fun _c=>(σ7.val ts (ae)).bind fun kn=>(σ8.val ts (aI bD (af M) (aN pl))).bind fun wh=>(σ9.val ts (aI bi (af M) (aK pl))).bind fun gi=>if (σ10.run ts En (need sSc)).E=0 then some ((⟨nm,v,kd,act,fr,un,kn,wh,gi,pl⟩:Pa.Rule):Pa.Rule) else none) (aJ dK zah _) zac hs4 (fun _ _b =>
  aQ (En:=En) 0 (fun fr=>(σ5.val ts (aI aV ae 36525)).bind fun un=>(σ6.val ts (need bf)).bind fun _c=>(σ7.val ts (ae)).bind fun kn=>(σ8.val ts (aI bD (af M) (aN pl))).bind fun wh=>(σ9.val ts (aI bi (af M) (aK pl))).bind fun gi=>if (σ10.run ts En (need sSc)).E=0 then some ((⟨nm,v,kd,act,fr,un,kn,wh,gi,pl⟩:Pa.Rule):Pa.Rule) else none) (aU _) zac hs5 (fun _ fr =>
  aQ (En:=En) 0 (fun un=>(σ6.val ts (need bf)).bind fun _c=>(σ7.val ts (ae)).bind fun kn=>(σ8.val ts (aI bD (af M) (aN pl))).bind fun wh=>(σ9.val ts (aI bi (af M) (aK pl))).bind fun gi=>if (σ10.run ts En (need sSc)).E=0 then some ((⟨nm,v,kd,act,fr,un,kn,wh,gi,pl⟩:Pa.Rule):Pa.Rule) else none) (lg _) zac hs6 (fun _ un =>
  aQ (En:=En) () (fun _c=>(σ7.val ts (ae)).bind fun kn=>(σ8.val ts (aI bD (af M) (aN pl))).bind fun wh=>(σ9.val ts (aI bi (af M) (aK pl))).bind fun gi=>if (σ10.run ts En (need sSc)).E=0 then some ((⟨nm,v,kd,act,fr,un,kn,wh,gi,pl⟩:Pa.Rule):Pa.Rule) else none) (aJ bf zah _) zac hs7 (fun _ _c =>
  aQ (En:=En) 0 (fun kn=>(σ8.val ts (aI bD (af M) (aN pl))).bind fun wh=>(σ9.val ts (aI bi (af M) (aK pl))).bind fun gi=>if (σ10.run ts En (need sSc)).E=0 then some ((⟨nm,v,kd,act,fr,un,kn,wh,gi,pl⟩:Pa.Rule):Pa.Rule) else none) (aU _) zac hs8 (fun _ kn =>
  aQ (En:=En) default (fun wh=>(σ9.val ts (aI bi (af M) (aK pl))).bind fun gi=>if (σ10.run ts En (need sSc)).E=0 then some ((⟨nm,v,kd,act,fr,un,kn,wh,gi,pl⟩:Pa.Rule):Pa.Rule) else none) (nL M (aN pl) _) zac hs9 (fun _ wh =>
  aQ (En:=En) default (fun gi=>if (σ10.run ts En (need sSc)).E=0 then some ((⟨nm,v,kd,act,fr,un,kn,wh,gi,pl⟩:Pa.Rule):Pa.Rule) else none) (ni M (aK pl) _) zac hs10 (fun _ gi =>
  tY (⟨nm,v,kd,act,fr,un,kn,wh,gi,pl⟩:Pa.Rule)))))))))))
 refine⟨σ1,σ2,σ3,σ4,σ5,σ6,σ7,σ8,σ9,σ10,hs1,hs2,hs3,hs4,hs5,hs6,hs7,hs8,hs9,hs10,⟨k1.2,k1.1,k2.2,k2.1,k3.2,k3.1,k4.2,k4.1,k5.2,k5.1,k6.2,k6.1,k7.2,k7.1,k8.2,k8.1,k9.2,k9.1,k10.2,k10.1⟩,hst.1.trans r1,fun d hd=>?_⟩
 rw[hst.2,r2] at hd
 simp only[Option.bind_eq_some_iff] at hd
 obtain⟨nm,h0,v,h1,act,h2,_,-,fr,h4,un,h5,_,-,kn,h7,wh,h8,gi,h9,hd⟩:=hd
 split at hd
 ·rename_i hz
  simp only[Option.some.injEq] at hd
  exact⟨hz,nm,v,act,fr,un,kn,wh,gi,h0,h1,h2,h4,h5,h7,h8,h9,hd.symm⟩
 ·cases hd
end Go.Proofs.YtnjfolljbfkojaaGreatDoor
