import Derived.Test.YtnjfolljbfkojaaGreatDoorMAO
import Derived.Test.YtnjfolljbfkojaaGreatDoorMAT
import Derived.Test.YtnjfolljbfkojaaGreatDoorMAR
set_option maxRecDepth 100000
set_option maxHeartbeats 20000000
namespace Go.Proofs.YtnjfolljbfkojaaGreatDoor
open Go.Value renaming int→zI
open Go.IntKind renaming i64→zL
open Go.Lib renaming hid→zH
open Go.RowKit Lx Pa
section
variable {α:Type} {ts:List Tok} {En:Nat}
theorem fJ {k k':Nat}{O:Int}{a:α}{o:List Tok->Out α}(h:o (ts.drop k) = .ok a (ts.drop k'))(hk:k'<=ts.length):(Sg.mk k 0 O).run ts En o=⟨k',0,O⟩/\(Sg.mk k 0 O).val ts o=some a:=by
 refine⟨?_,by simp[Sg.val,h,outT]⟩
 simp only[Sg.run,if_true,h,List.length_drop]
 rw[show ts.length-(ts.length-k')=k' from zac]
theorem iJ {k k' q m:Nat}{e O:Int}{o:List Tok->Out α}(h:o (ts.drop k) = .er e q m)(hm:ts.length-m=k'):(Sg.mk k 0 O).run ts En o=⟨k',e,ag ts En q⟩/\(Sg.mk k 0 O).val ts o=none:=by
 refine⟨?_,by simp[Sg.val,h,outT]⟩
 simp only[Sg.run,if_true,h,hm]
theorem ek {t:List Tok}:∀(l:List (List UInt8)) (i u:Nat),whichI l t i=some u->u<i+l.length/\t≠[]
 | [],i,u,h=>by cases h
 | s::l,i,u,h=>by
  unfold whichI at h
  split at h
  ·rename_i hw
   simp only[Option.some.injEq] at h
   subst h
   refine⟨by simp,fun e=>?_⟩
   subst e;cases hw
  ·have:=ek l (i+1) u h
   exact⟨by simp only[List.length_cons];omega,this.2⟩
theorem zx (h:eQ ts):Wf ts:=fun t ht hk=>((h t ht).2.2.1 hk).1
end
theorem Dj {M:Int->Int->Int×Int×Int}{ts:List Tok}{En k:Nat}(O:Int)(hk:k<ts.length)(h1:isN (ts.drop k)=false)(h2:isA (ts.drop k)=false)(h3:isW bB (ts.drop k)=false)(h4:isW sLp (ts.drop k)=true) :
  (Sg.mk k 0 O).run ts En (factor M (rd M .ex))=((Sg.mk (k+1) 0 O).run ts En (rd M .ex)).run ts En (need sRp)/\∀u,(Sg.mk k 0 O).val ts (factor M (rd M .ex))=some u->(Sg.mk (k+1) 0 O).val ts (rd M .ex)=some u:=by
 have he:factor M (rd M .ex) (ts.drop k)=(fun t=>(rd M .ex t).bind fun a r=>(need sRp r).bind fun _ r=> .ok a r) (ts.drop (k+1)):=by
  have hd:ts.drop k=ts[k]::ts.drop (k+1):=List.drop_eq_getElem_cons hk
  rw[hd] at h1 h2 h3 h4 |-
  simp only[factor]
  rw[if_neg (by simpa[isN] using h1),if_neg (by rw[h2];simp),if_neg (by have:isT bB ts[k]=false:=h3;rw[this];simp),if_pos (show isT sLp ts[k]=true from h4)]
 obtain⟨t1,t2⟩:=dM (ts:=ts) (En:=En) (k:=k) (O:=O) (o:=factor M (rd M .ex)) (o':=(fun t=>(rd M .ex t).bind fun a r=>(need sRp r).bind fun _ r=> .ok a r)) he
 have k0:(Sg.mk (k+1) 0 O).k<=ts.length:=hk
 have k1:=au (En:=En) (fe (M:=M) (ts.drop (Sg.mk (k+1) 0 O).k)) k0
 obtain⟨r1,r2⟩:=aQ (σ:=⟨k+1,0,O⟩) (En:=En) (f:=fun a r=>(need sRp r).bind fun _ r=>Out.ok a r) (default:Tree) (fun a=>((((Sg.mk (k+1) 0 O).run ts En (rd M .ex)).val ts (need sRp)).bind fun _=>if (((Sg.mk (k+1) 0 O).run ts En (rd M .ex)).run ts En (need sRp)).E=0 then some a else none)) (fe _) k0 rfl (fun hk a =>
  aQ (En:=En) () (fun _=>if (((Sg.mk (k+1) 0 O).run ts En (rd M .ex)).run ts En (need sRp)).E=0 then some a else none) (aJ sRp zah _) hk rfl (fun hk _=>qA _ hk))
 refine⟨t1.trans r1,fun u hu=>?_⟩
 rw[t2,r2] at hu
 simp only[Option.bind_eq_some_iff] at hu
 obtain⟨a,ha,_,-,hu⟩:=hu
 split at hu
 ·simp only[Option.some.injEq] at hu
  rw[ha,hu]
 ·cases hu
section
variable {ts:List Tok} {p:Option Addr} {b off cap n En:Nat}
theorem bO.weak {w w':World}{k E O:Int}{t t':Option Tree}{e:Ending}(h:bO w ts p n cap En k E O t e w')(ht:∀u,t'=some u->t=some u):bO w ts p n cap En k E O t' e w':=by
 obtain⟨x,h1,h2,h3⟩:=h
 exact⟨x,h1,fun u hu=>h2 u (ht u hu),h3⟩
theorem vG (σ:Sg)(hk:σ.k<=n)(hT:eQ ts)(KX:∀σ':Sg,σ'.k<=n->σ.k<σ'.k->XpC M0 ts p b off cap n En σ'):FcC M0 ts p b off cap n En σ:=by
 intro w hS
 have hl:=hS.ln
 have hwf:=zx hT
 have none_case:∀(k:Nat) (O:Int),k<=n->isN (ts.drop k)=false->isA (ts.drop k)=false->isW bB (ts.drop k)=false->isW sLp (ts.drop k)=false->which [gX,iy] (ts.drop k)=none->factor M0 (rd M0 .ex) (ts.drop k) = .er 10 (n-k) (n-k)->Calls Tryz.prog 71 #[.agg #[.slice p n cap,zI zL k,zI zL En,zI zL 0,zI zL O]] w fun e w'=>bO w ts p n cap En (((Sg.mk k 0 O).run ts En (factor M0 (rd M0 .ex))).k:Nat) ((Sg.mk k 0 O).run ts En (factor M0 (rd M0 .ex))).E ((Sg.mk k 0 O).run ts En (factor M0 (rd M0 .ex))).O ((Sg.mk k 0 O).val ts (factor M0 (rd M0 .ex))) e w':=by
  intro k O hk h1 h2 h3 h4 h5 hf
  obtain⟨r1,r2⟩:=iJ (En:=En) (O:=O) hf (show ts.length-(n-k)=k from zac)
  rw[r1,r2]
  refine(je ts p b off cap n k En 0 O w hS hwf hk (.inr ⟨rfl,h1,h2,h3,h4,h5⟩)).mono ?_
  rintro _ w' ⟨rfl,hb⟩
  rw[if_pos rfl,if_pos rfl]
  exact⟨⟨0,0,⟨#[]⟩,0,0,false,0,0,0,none,0,0⟩,rfl,(fun u hu=>by cases hu),hb⟩
 by_cases h0:σ.E=0
 case neg =>
  rw[dx h0,dZ h0]
  refine(je ts p b off cap n σ.k En σ.E σ.O w hS hwf hk (.inl h0)).mono ?_
  rintro _ w' ⟨rfl,hb⟩
  rw[if_neg h0,if_neg h0]
  exact⟨⟨0,0,⟨#[]⟩,0,0,false,0,0,0,none,0,0⟩,rfl,(fun u hu=>by cases hu),hb⟩
 obtain⟨k,E,O⟩:=σ
 simp only at hk h0 KX |-
 subst h0
 rcases Nat.lt_or_ge k ts.length with hkt|hkt
 case inr =>
  have hd:ts.drop k=[]:=List.drop_eq_nil_of_le hkt
  refine none_case k O hk (by rw[hd];rfl) (by rw[hd];rfl) (by rw[hd];rfl) (by rw[hd];rfl) (by rw[hd];rfl) ?_
  rw[hd,show n-k=0 from zac];rfl
 have hd:ts.drop k=ts[k]::ts.drop (k+1):=List.drop_eq_getElem_cons hkt
 have hln:(ts.drop (k+1)).length+1=n-k:=zbn
 obtain⟨-,-,-,n0,n1,d0,d1⟩:=hT ts[k] (List.getElem_mem hkt)
 cases h1:isN (ts.drop k) with
 | true =>
  have hk2:ts[k].k=2:=by rw[hd] at h1;simpa[isN] using h1
  cases h2:which units (ts.drop (k+1)) with
  | none =>
   have hf:factor M0 (rd M0 .ex) (ts.drop k) = .ok (.mk 1 (n-k) [] ts[k].n ts[k].d 1 []) (ts.drop (k+1)):=by
    rw[hd];simp only[factor];rw[if_pos hk2,h2,hln]
   obtain⟨r1,r2⟩:=fJ (En:=En) (O:=O) hf zac
   rw[r1,r2]
   exact pQ ts p b off cap n k En O w hS hwf hkt h1 h2
  | some u =>
   obtain⟨hu,hne⟩:=ek units 0 u h2
   have hu5:u<5:=by simpa[units] using hu
   have hkt2:k+1<ts.length:=by
    rcases Nat.lt_or_ge (k+1) ts.length with z|z
    ·exact z
    ·exact absurd (List.drop_eq_nil_of_le z) hne
   have htl:(ts.drop (k+1)).tail=ts.drop (k+2):=by rw[List.tail_drop]
   by_cases hu2:u=2
   ·subst hu2
    by_cases hz:(M0 ts[k].n ts[k].d).2.2=0
    ·have hf:factor M0 (rd M0 .ex) (ts.drop k) = .ok (.mk 1 (n-k) [] (M0 ts[k].n ts[k].d).1 (M0 ts[k].n ts[k].d).2.1 2 []) (ts.drop (k+2)):=by
      rw[hd];simp only[factor];rw[if_pos hk2,h2];simp only;rw[if_pos trivial,if_pos hz,hln,htl]
     obtain⟨r1,r2⟩:=fJ (En:=En) (O:=O) hf zac
     rw[r1,r2]
     exact mI ts p b off cap n k En O w hS hkt hkt2 h1 n0 n1 d0 d1 h2 hz
    ·have hf:factor M0 (rd M0 .ex) (ts.drop k) = .er 3 (n-k) ((ts.drop (k+1)).length-1):=by
      rw[hd];simp only[factor];rw[if_pos hk2,h2];simp only;rw[if_pos trivial,if_neg hz,hln]
     obtain⟨r1,r2⟩:=iJ (En:=En) (O:=O) hf (show ts.length-((ts.drop (k+1)).length-1)=k+2 from zbn)
     rw[r1,r2]
     exact mQ ts p b off cap n k En O w hS hkt hkt2 h1 n0 n1 d0 d1 h2 hz
   ·have hf:factor M0 (rd M0 .ex) (ts.drop k) = .ok (.mk 1 (n-k) [] ts[k].n ts[k].d u []) (ts.drop (k+2)):=by
     rw[hd];simp only[factor];rw[if_pos hk2,h2];simp only;rw[if_neg hu2,hln,htl]
    obtain⟨r1,r2⟩:=fJ (En:=En) (O:=O) hf zac
    rw[r1,r2]
    exact og ts p b off cap n k En O w hS hkt hkt2 h1 u hu5 hu2 h2
 | false =>
  have hk2:¬ts[k].k=2:=by rw[hd] at h1;simpa[isN] using h1
  cases h2:isA (ts.drop k) with
  | true =>
   have hf:factor M0 (rd M0 .ex) (ts.drop k) = .ok (.mk 2 (n-k) ts[k].t 0 0 1 []) (ts.drop (k+1)):=by
    rw[hd] at h2 |-;simp only[factor];rw[if_neg hk2,if_pos h2,hln]
   obtain⟨r1,r2⟩:=fJ (En:=En) (O:=O) hf zac
   rw[r1,r2]
   have:=nk M0 ts p b off cap n k En O w hS hwf hkt h1 h2
   rw[hf] at this
   simp only[Post,outK,outE,outO,outT,List.length_drop] at this
   rw[show n-(ts.length-(k+1))=k+1 from zac] at this
   exact this
  | false =>
   cases h3:isW bB (ts.drop k) with
   | true =>
    have hf:factor M0 (rd M0 .ex) (ts.drop k) = .ok (.mk 17 (n-k) [] 0 0 1 []) (ts.drop (k+1)):=by
     rw[hd] at h2 h3 |-;simp only[factor];rw[if_neg hk2,if_neg (by rw[h2];simp),if_pos (show isT bB ts[k]=true from h3),hln]
    obtain⟨r1,r2⟩:=fJ (En:=En) (O:=O) hf zac
    rw[r1,r2]
    exact om ts p b off cap n k En O w hS hwf zac h1 h2 h3
   | false =>
    cases h4:isW sLp (ts.drop k) with
    | true =>
     obtain⟨r1,r2⟩:=Dj (M:=M0) (En:=En) O hkt h1 h2 h3 h4
     rw[r1]
     have k1:=au (En:=En) (σ:=⟨k+1,0,O⟩) (fe (M:=M0) (ts.drop (k+1))) (show k+1<=ts.length from hkt)
     refine(sU ts p b off cap n k En O w hS hwf zac h1 h2 h3 h4 _ _ _ _ _ _ _ (KX ⟨k+1,0,O⟩ (by show k+1<=n;omega) (by show k<k+1;omega)) (fun w1 hS1=>bL sRp _ w1 hS1 zac)).mono ?_
     exact fun e w' h=>h.weak r2
    | false =>
     cases h5:which [gX,iy] (ts.drop k) with
     | none =>
      refine none_case k O hk h1 h2 h3 h4 h5 ?_
      have hb:factor M0 (rd M0 .ex) (ts.drop k)=bad (ts.drop k):=by
       rw[hd] at h2 h3 h4 h5 |-
       simp only[factor]
       rw[if_neg hk2,if_neg (by rw[h2];simp),if_neg (by have:isT bB ts[k]=false:=h3;rw[this];simp),if_neg (by have:isT sLp ts[k]=false:=h4;rw[this];simp),h5]
      rw[hb]
      unfold bad
      rw[List.length_drop,hl]
     | some o=>exact rX M0 ts p b off cap n k En O w hS hwf zac o h1 h2 h3 h4 h5 KX
end
section
variable (M:Int->Int->Int×Int×Int) (ts:List Tok) (En:Nat)
def wh (ts:List Tok)(l:Nat)(σ:Sg):Int:=if σ.E=0 then whV (which (signs l) (ts.drop σ.k)) else -1
def Rst (l pl:Nat)(τ:Sg)(T:Option Tree)(i:Int)(σ:Sg)(t:Option Tree):Prop :=
 (i = -1/\τ=σ/\T=t)\/∃(j:Nat) (u:Tree),i=j/\j<(signs l).length/\t=some u/\σ.E=0/\σ.k<ts.length/\which (signs l) (ts.drop σ.k)=some j/\τ=σ.run ts En (rd M (.loop l pl u))/\T=σ.val ts (rd M (.loop l pl u))
variable {M ts En}
theorem DI {l pl:Nat}{σ:Sg}{u:Tree}(hk:σ.k<=ts.length)(h0:σ.E=0):Rst M ts En l pl (σ.run ts En (rd M (.loop l pl u))) (σ.val ts (rd M (.loop l pl u))) (wh ts l σ) σ (some u):=by
 unfold wh
 rw[if_pos h0]
 cases hw:which (signs l) (ts.drop σ.k) with
 | none =>
  have e:rd M (.loop l pl u) (ts.drop σ.k) = .ok u (ts.drop σ.k):=by rw[fK];simp only[Pa.step];rw[hw]
  obtain⟨k,E,O⟩:=σ
  simp only at h0 hk e
  subst h0
  obtain⟨r1,r2⟩:=fJ (En:=En) (O:=O) e hk
  exact .inl ⟨rfl,r1,r2⟩
 | some j =>
  obtain⟨h1,h2⟩:=ek _ _ _ hw
  refine .inr ⟨j,u,rfl,zac,rfl,h0,?_,hw,rfl,rfl⟩
  rcases Nat.lt_or_ge σ.k ts.length with z|z
  ·exact z
  ·exact absurd (List.drop_eq_nil_of_le z) h2
theorem DW {l pl:Nat}{σ:Sg}(h:σ.E≠0):Rst M ts En l pl σ none (wh ts l σ) σ none:= .inl ⟨if_neg h,rfl,rfl⟩
theorem Ad {l pl:Nat}{σ:Sg}{o:List Tok->Out Tree}(g:Tree->Tree){s:Bool}(hg:Pa.Good (ts.drop σ.k) s (o (ts.drop σ.k)))(hk:σ.k<=ts.length) :
  Rst M ts En l pl (σ.run ts En (fun t=>(o t).bind fun a r=>rd M (.loop l pl (g a)) r)) (σ.val ts (fun t=>(o t).bind fun a r=>rd M (.loop l pl (g a)) r)) (wh ts l (σ.run ts En o)) (σ.run ts En o) ((σ.val ts o).map g):=by
 obtain⟨r1,r2⟩:=run_bind (En:=En) (f:=fun a r=>rd M (.loop l pl (g a)) r) hg hk
 rw[r1,r2]
 cases hv:σ.val ts o with
 | none=>exact DW (jC (En:=En) hg hv)
 | some a=>exact DI (au (En:=En) hg hk).1 (ik (En:=En) hv).2.1
theorem mW {l:Nat}(σ:Sg)(hk:σ.k<=ts.length)(h6:l<6)(h2:l≠2) :
  Rst M ts En l (ts.length-σ.k) (σ.run ts En (rd M (.row l))) (σ.val ts (rd M (.row l))) (wh ts l (σ.run ts En (rd M (.row (l+1))))) (σ.run ts En (rd M (.row (l+1)))) (σ.val ts (rd M (.row (l+1)))):=by
 have e:rd M (.row l) (ts.drop σ.k)=(fun t=>(rd M (.row (l+1)) t).bind fun a r=>rd M (.loop l (ts.length-σ.k) (id a)) r) (ts.drop σ.k):=by
  rw[fK]
  simp only[Pa.step]
  rw[if_neg zac,if_neg h2,List.length_drop]
  rfl
 obtain⟨r1,r2⟩:=eD (ts:=ts) (En:=En) (σ:=σ) (o:=rd M (.row l)) (o':=fun t=>(rd M (.row (l+1)) t).bind fun a r=>rd M (.loop l (ts.length-σ.k) (id a)) r) e
 rw[r1,r2]
 have:=Ad (M:=M) (En:=En) (l:=l) (pl:=ts.length-σ.k) id (aX (M:=M) (.row (l+1)) (ts.drop σ.k)) hk
 rw[Option.map_id,id] at this
 exact this
theorem xS {l pl j:Nat}{u:Tree}(k:Nat)(O:Int)(h3:l≠3)(hk:k<ts.length)(hw:which (signs l) (ts.drop k)=some j) :
  Rst M ts En l pl ((Sg.mk k 0 O).run ts En (rd M (.loop l pl u))) ((Sg.mk k 0 O).val ts (rd M (.loop l pl u))) (wh ts l ((Sg.mk (k+1) 0 O).run ts En (rd M (.row (l+1))))) ((Sg.mk (k+1) 0 O).run ts En (rd M (.row (l+1)))) (((Sg.mk (k+1) 0 O).val ts (rd M (.row (l+1)))).map fun m=> .mk ((ops l).getD j 0) pl [] 0 0 1 [u,m]):=by
 have e:rd M (.loop l pl u) (ts.drop k)=(fun t=>(rd M (.row (l+1)) t).bind fun m r=>rd M (.loop l pl (.mk ((ops l).getD j 0) pl [] 0 0 1 [u,m])) r) (ts.drop (k+1)):=by
  rw[fK]
  simp only[Pa.step]
  rw[hw]
  simp only[if_neg h3,List.tail_drop]
 obtain⟨r1,r2⟩:=dM (ts:=ts) (En:=En) (O:=O) (o:=rd M (.loop l pl u)) (o':=fun t=>(rd M (.row (l+1)) t).bind fun m r=>rd M (.loop l pl (.mk ((ops l).getD j 0) pl [] 0 0 1 [u,m])) r) e
 rw[r1,r2]
 exact Ad (fun m=> .mk ((ops l).getD j 0) pl [] 0 0 1 [u,m]) (aX (M:=M) (.row (l+1)) (ts.drop (k+1))) hk
theorem wZ {pl j:Nat}{u:Tree}(k:Nat)(O:Int)(hk:k<ts.length)(hw:which (signs 3) (ts.drop k)=some j) :
  (Sg.mk k 0 O).run ts En (rd M (.loop 3 pl u))=(Sg.mk (k+1) 0 O).run ts En (rd M (.row 4))/\(Sg.mk k 0 O).val ts (rd M (.loop 3 pl u))=((Sg.mk (k+1) 0 O).val ts (rd M (.row 4))).map fun m=> .mk ((ops 3).getD j 0) pl [] 0 0 1 (if 3<j then [m,u] else [u,m]):=by
 have e:rd M (.loop 3 pl u) (ts.drop k)=(fun t=>(rd M (.row 4) t).bind fun m r=> .ok (.mk ((ops 3).getD j 0) pl [] 0 0 1 (if 3<j then [m,u] else [u,m])) r) (ts.drop (k+1)):=by
  rw[fK]
  simp only[Pa.step]
  rw[hw]
  simp only[if_true,List.tail_drop]
 obtain⟨r1,r2⟩:=dM (ts:=ts) (En:=En) (O:=O) (o:=rd M (.loop 3 pl u)) (o':=fun t=>(rd M (.row 4) t).bind fun m r=> .ok (.mk ((ops 3).getD j 0) pl [] 0 0 1 (if 3<j then [m,u] else [u,m])) r) e
 have hg:=aX (M:=M) (.row 4) (ts.drop (k+1))
 have k1:=(au (En:=En) (σ:=⟨k+1,0,O⟩) hg hk).1
 obtain⟨q1,q2⟩:=run_bind (En:=En) (σ:=⟨k+1,0,O⟩) (f:=fun m r=>Out.ok (Tree.mk ((ops 3).getD j 0) pl [] 0 0 1 (if 3<j then [m,u] else [u,m])) r) hg hk
 rw[r1,r2,q1,q2]
 cases hv:(Sg.mk (k+1) 0 O).val ts (rd M (.row 4)) with
 | none=>exact⟨rfl,rfl⟩
 | some m =>
  have h1:=qA (ts:=ts) (En:=En) (Tree.mk ((ops 3).getD j 0) pl [] 0 0 1 (if 3<j then [m,u] else [u,m])) k1
  refine⟨h1.1,h1.2.trans ?_⟩
  rw[if_pos (ik (En:=En) hv).2.1]
  rfl
theorem yZ {l pl j:Nat}{u:Tree}(k:Nat)(O:Int)(h3:l=3)(hk:k<ts.length)(hw:which (signs l) (ts.drop k)=some j) :
  Rst M ts En l pl ((Sg.mk k 0 O).run ts En (rd M (.loop l pl u))) ((Sg.mk k 0 O).val ts (rd M (.loop l pl u))) (-1) ((Sg.mk (k+1) 0 O).run ts En (rd M (.row (l+1)))) (((Sg.mk (k+1) 0 O).val ts (rd M (.row (l+1)))).map fun m=> .mk ((ops l).getD j 0) pl [] 0 0 1 (if 3<j then [m,u] else [u,m])):=by
 subst h3
 have:=wZ (M:=M) (En:=En) (pl:=pl) (u:=u) k O hk hw
 exact .inl ⟨rfl,this.1,this.2⟩
end
section
variable {ts:List Tok} {p:Option Addr} {b off cap n En:Nat}
theorem mP (l:Nat)(σ:Sg)(w:World)(p2:Option Addr)(b2 cap2:Nat)(hS:SlT w p b off n ts)(hL:SlS w p2 b2 0 (signs l).length (signs l)) :
  Calls Tryz.prog 42 #[.agg #[.slice p n cap,zI zL (σ.k:Nat),zI zL En,zI zL σ.E,zI zL σ.O],.slice p2 (signs l).length cap2] w fun e w'=>e = .returned (zI zL (wh ts l σ))/\RowKit.Below w.heap.size w w':=by
 obtain⟨k,E,O⟩:=σ
 unfold wh
 by_cases h0:E=0
 ·subst h0
  rw[if_pos rfl]
  exact bM (signs l) ts p p2 b off cap n k b2 0 cap2 _ En O w hS hL
 ·rw[if_neg h0]
  exact iA (signs l) ts p p2 b off cap n k b2 0 cap2 _ En E O w hS hL h0
theorem NodeA.kept {A:Nat->Prop}{r:Nat}{ofs:Nat->Int}{v V:World}(hk:Kept r v V)(hr:¬A r)(t:Tree)(x:NV)(h:NodeA v A ofs t x):NodeA V A ofs t x :=
 NodeA.keep hk.size (fun j hj hj2=>hk.block j hj2 (by rintro rfl;exact hr hj)) (fun _ h _=>h) t x h
def DY (l:Nat)(w:World)(e:Ending)(w':World):Prop:=∃q b cap q2 b2 cap2,e = .returned (.tuple #[.slice q (signs l).length cap,.slice q2 (ops l).length cap2])/\SlS w' q b 0 (signs l).length (signs l)/\SlI w' q2 b2 0 (ops l).length (ops l)/\RowKit.Below w.heap.size w w'/\w.heap.size<=b/\w.heap.size<=b2
theorem xL (l:Nat)(w:World)(T T2:Nat):DY l w (.returned (.tuple #[.slice (some ⟨w.heap.size,0,none⟩) (signs l).length (signs l).length,.slice (some ⟨w.heap.size+1,0,none⟩) (ops l).length (ops l).length])) ((w.alloc (.cells ((signs l).map sv).toArray T)).alloc (.cells ((ops l).map fun x=>Value.int .i64 x).toArray T2)):=by
 have h1:=iO w (signs l) T (by unfold signs;split<;>decide)
 have h2:=Ar (w.alloc (.cells ((signs l).map sv).toArray T)) (ops l) T2
 rw[show(w.alloc (.cells ((signs l).map sv).toArray T)).heap.size=w.heap.size+1 by simp] at h2
 exact⟨_,_,_,_,_,_,rfl,h1.bel ((Below.refl _ _).alloc (Nat.le_refl _) _),h2,((Below.refl w.heap.size w).alloc (Nat.le_refl _) _).alloc (by simp) _,Nat.le_refl _,Nat.le_succ _⟩
theorem mV (l:Nat)(w:World)(hl:l=0\/l=1\/l=3\/l=4\/l=5):Calls Tryz.prog 72 #[zI zL l] w fun e w'=>DY l w e w':=by
 have HO:=zH (xL l w 9 3)
 rcases hl with rfl|rfl|rfl|rfl|rfl
 all_goals
  go_enter Tryz.func72,Tryz.ntmps72
  go_wp2_with fail
  go_ret2
  exact HO.out
theorem SlS.kept {v V:World}{r:Nat}{q:Option Addr}{b off len:Nat}{l:List (List UInt8)}(h:SlS v q b off len l)(hk:Kept r v V)(hr:b≠r):SlS V q b off len l :=
 ⟨h.ln,h.ptr,fun k hj=>(World.cell?_of_block (w:=v) (a:=⟨b,off+k,none⟩) (hk.block b (h.lt (by have:=h.ln;omega)) hr)).trans (h.cells k hj),fun x=>Nat.lt_of_lt_of_le (h.lt x) hk.size,h.max⟩
theorem SlI.kept {v V:World}{r:Nat}{q:Option Addr}{b off len:Nat}{l:List Int}(h:SlI v q b off len l)(hk:Kept r v V)(hr:b≠r):SlI V q b off len l :=
 ⟨h.ln,h.ptr,fun k hj=>(World.cell?_of_block (w:=v) (a:=⟨b,off+k,none⟩) (hk.block b (h.lt (by have:=h.ln;omega)) hr)).trans (h.cells k hj),fun x=>Nat.lt_of_lt_of_le (h.lt x) hk.size⟩
theorem vK (l:Nat)(hl:l=0\/l=1\/l=3\/l=4\/l=5):(ops l).length=(signs l).length/\0<(signs l).length/\(signs l).length<=10:=by rcases hl with rfl|rfl|rfl|rfl|rfl<;>decide
end
end Go.Proofs.YtnjfolljbfkojaaGreatDoor
