import Derived.Test.YtnjfolljbfkojaaGreatDoorMAB
set_option maxRecDepth 100000
set_option maxHeartbeats 20000000
namespace Go.Proofs.YtnjfolljbfkojaaGreatDoor
open Go.Value renaming int→zI
open Go.IntKind renaming i64→zL
open Go.Lib renaming hid→zH
section
namespace Pa
open Lx
section
variable {α β:Type}
def Out.le (x y:Out α):Prop:=(∃k m,x = .er 0 k m)\/x=y
theorem bv (x:Out α):x.le x:= .inr rfl
theorem Ff {x y z:Out α}(h:x.le y)(k:y.le z):x.le z:=by
 rcases h with ⟨a,b,h⟩|rfl
 ·exact .inl ⟨a,b,h⟩
 ·exact k
theorem cz {x y:Out α}{f g:α->List Tok->Out β}(hx:x.le y)(hf:∀a r,(f a r).le (g a r)):(x.bind f).le (y.bind g):=by
 rcases hx with ⟨k,m,rfl⟩|rfl
 ·exact .inl ⟨k,m,rfl⟩
 ·cases x with
  | ok a r=>exact hf a r
  | er e k m=>exact bv _
def uj (ts:List Tok):Prop:=∀t∈ts,isT sSc t=false
theorem iG:uj []:=fun t h=>by cases h
theorem qp {a b:List Tok}(h:uj a)(k:uj b):uj (a++b):=fun t ht=>by
 rw[List.mem_append] at ht
 exact ht.elim (h t) (k t)
def Good (ts:List Tok)(s:Bool):Out α->Prop
 | .ok _ r=>∃pre,ts=pre++r/\(s=true->pre≠[])/\uj pre
 | .er e k m=>(e=2\/e=3\/e=10)/\k<=ts.length/\m<=k/\∃pre q,ts=pre++q/\q.length=m/\uj pre
theorem Good.len {ts r:List Tok}{s:Bool}{a:α}(h:Good ts s (.ok a r)):r.length<=ts.length/\(s=true->r.length<ts.length):=by
 obtain⟨pre,rfl,hp,-⟩:=h
 refine⟨by simp,fun e=>?_⟩
 have:=hp e
 cases pre with
 | nil=>exact absurd rfl this
 | cons x y=>simp;omega
theorem sS {ts:List Tok}{s s':Bool}{x:Out α}{f:α->List Tok->Out β}(hx:Good ts s x)(hf:∀a r,x = .ok a r->r.length<=ts.length->(s=true->r.length<ts.length)->Good r s' (f a r)):Good ts (s||s') (x.bind f):=by
 cases x with
 | er e k m=>exact hx
 | ok a r =>
  have h:=hf a r rfl hx.len.1 hx.len.2
  obtain⟨pre,rfl,hp,fp⟩:=hx
  show Good _ _ (f a r)
  generalize f a r=o at *
  cases o with
  | er e k m =>
   obtain⟨h1,h2,h3,p2,q,rfl,hq,fq⟩:=h
   exact⟨h1,by rw[List.length_append];omega,h3,pre++p2,q,by simp,hq,qp fp fq⟩
  | ok b r2 =>
   obtain⟨q,rfl,hq,fq⟩:=h
   refine⟨pre++q,by simp,fun e=>?_,qp fp fq⟩
   rw[Bool.or_eq_true] at e
   rcases e with e|e
   ·intro h;exact hp e (List.append_eq_nil_iff.1 h).1
   ·intro h;exact hq e (List.append_eq_nil_iff.1 h).2
theorem av {ts:List Tok}{s s':Bool}{x:Out α}{f:α->List Tok->Out β}(hx:Good ts s x)(hf:∀a r,r.length<=ts.length->(s=true->r.length<ts.length)->Good r s' (f a r)):Good ts (s||s') (x.bind f):=sS hx fun a r _=>hf a r
theorem il {t:Tok}{r:List Tok}(h:isT sSc t=false)(k:uj r):uj (t::r):=fun x hx=>by
 rw[List.mem_cons] at hx
 rcases hx with rfl|hx
 ·exact h
 ·exact k x hx
theorem aG {t:Tok}{r:List Tok}{s:Bool}{o:Out α}(ht:isT sSc t=false)(h:Good r s o):Good (t::r) true o:=by
 cases o with
 | er e k m =>
  obtain⟨h1,h2,h3,p2,q,rfl,hq,fq⟩:=h
  exact⟨h1,by simp at h2 |-;omega,h3,t::p2,q,rfl,hq,il ht fq⟩
 | ok b r2 =>
  obtain⟨q,rfl,hq,fq⟩:=h
  exact⟨t::q,rfl,fun _=>by simp,il ht fq⟩
theorem eF {ts:List Tok}{s s':Bool}{o:Out α}(h:Good ts s o)(k:s'=true->s=true):Good ts s' o:=by
 cases o with
 | er e k m=>exact h
 | ok b r2=>obtain⟨q,rfl,hq,fq⟩:=h;exact⟨q,rfl,fun e=>hq (k e),fq⟩
theorem aL (a:α)(r:List Tok):Good r false (.ok a r):=⟨[],rfl,by simp,iG⟩
theorem bH (ts:List Tok)(s:Bool):Good ts s (bad ts:Out α):=⟨.inr (.inr rfl),Nat.le_refl _,Nat.le_refl _,[],ts,rfl,rfl,iG⟩
theorem j6 {s:List UInt8}{t:Tok}(h:isT s t=true)(hs:s≠sSc):isT sSc t=false:=by
 unfold isT at h |-
 rw[Bool.and_eq_true,beq_iff_eq] at h
 rw[h.2]
 have:(s==sSc)=false:=by simpa using hs
 rw[this,Bool.and_false]
theorem kI {t:Tok}(h:t.k=2):isT sSc t=false:=by unfold isT;rw[decide_eq_false (by simp[h]),Bool.false_and]
theorem qE {t:Tok}{r:List Tok}(h:isA (t::r)=true):isT sSc t=false:=by
 unfold isA at h
 simp only[Bool.and_eq_true,Bool.not_eq_true'] at h
 unfold isT
 rw[h.2,Bool.and_false]
end
theorem bW {s:List UInt8}{ts:List Tok}(h:isW s ts=true):∃t r,ts=t::r:=by
 cases ts with
 | nil=>cases h
 | cons t r=>exact⟨t,r,rfl⟩
theorem wz:∀{l:List (List UInt8)} {t:Tok} {r:List Tok} {i k:Nat},whichI l (t::r) i=some k->∃s∈l,isT s t=true:=by
 intro l
 induction l with
 | nil=>intro t r i k h;cases h
 | cons s l ih =>
  intro t r i k h
  rw[whichI] at h
  by_cases hs:isW s (t::r)=true
  ·exact⟨s,by simp,hs⟩
  ·rw[if_neg hs] at h
   obtain⟨x,hx,e⟩:=ih h
   exact⟨x,by simp[hx],e⟩
theorem eP {l:List (List UInt8)}{t:Tok}{r:List Tok}{k:Nat}(h:which l (t::r)=some k)(hl:sSc ∉ l):isT sSc t=false:=by
 obtain⟨s,hs,e⟩:=wz h
 exact j6 e fun h=>hl (h▸hs)
theorem cZ:∀{l:List (List UInt8)} {ts:List Tok} {i k:Nat},whichI l ts i=some k->∃t r,ts=t::r:=by
 intro l
 induction l with
 | nil=>intro ts i k h;cases h
 | cons s l ih =>
  intro ts i k h
  rw[whichI] at h
  by_cases hs:isW s ts=true
  ·exact bW hs
  ·rw[if_neg hs] at h;exact ih h
theorem bn {s:List UInt8}(ts:List Tok)(hs:s≠sSc):Good ts true (need s ts):=by
 unfold need
 split
 ·rename_i h
  obtain⟨t,r,rfl⟩:=bW h
  exact aG (j6 h hs) (aL _ _)
 ·exact bH _ _
section
variable {M:Int->Int->Int×Int×Int}
theorem oN {r1 r2:List Tok->Out Tree}(h:∀ts,(r1 ts).le (r2 ts))(ts:List Tok):(factor M r1 ts).le (factor M r2 ts):=by
 unfold factor
 split
 ·exact bv _
 ·split
  ·exact bv _
  ·split
   ·exact bv _
   ·split
    ·exact bv _
    ·split
     ·exact cz (h _) fun _ _=>bv _
     ·split
      ·exact bv _
      ·exact cz (bv _) fun _ _=>cz (h _) fun _ _=>cz (bv _) fun _ _=>cz (h _) fun _ _=>bv _
theorem mO {r1 r2:Job->List Tok->Out Tree}(h:∀j ts,(r1 j ts).le (r2 j ts))(j:Job)(ts:List Tok):(step M r1 j ts).le (step M r2 j ts):=by
 cases j with
 | ex =>
  simp only[step]
  split
  ·exact cz (h _ _) fun _ _=>cz (bv _) fun _ _=>cz (h _ _) fun _ _=>cz (bv _) fun _ _=>cz (h _ _) fun _ _=>bv _
  ·exact h _ _
 | row l =>
  simp only[step]
  split
  ·exact oN (h _) _
  ·split
   ·split
    ·exact cz (h _ _) fun _ _=>bv _
    ·exact h _ _
   ·exact cz (h _ _) fun _ _=>h _ _
 | loop l pl n =>
  simp only[step]
  cases which (signs l) ts with
  | none=>exact bv _
  | some i =>
   refine cz (h _ _) fun _ _=>?_
   split
   ·exact bv _
   ·exact h _ _
theorem wT:∀(f:Nat) (j:Job) (ts:List Tok),(run M f j ts).le (run M (f+1) j ts):=by
 intro f
 induction f with
 | zero=>intro j ts;exact .inl ⟨0,0,rfl⟩
 | succ f ih=>intro j ts;exact mO ih j ts
theorem qR {f g:Nat}(h:f<=g)(j:Job)(ts:List Tok):(run M f j ts).le (run M g j ts):=by
 induction g with
 | zero =>
  obtain rfl:f=0:=zac
  exact bv _
 | succ g ih =>
  by_cases e:f=g+1
  ·subst e;exact bv _
  ·exact Ff (ih zac) (wT g j ts)
def strict:Job->Bool
 | .loop _ _ _=>false
 | _=>true
def nd:Job->Nat->Nat
 | .ex,n=>20*n+10
 | .row l,n=>20*n+9-min l 6
 | .loop _ _ _,n=>20*n+2
theorem oZ {ex:List Tok->Out Tree}{ts:List Tok}(h:∀r,r.length<ts.length->Good r true (ex r)):Good ts true (factor M ex ts):=by
 unfold factor
 split
 ·exact bH _ _
 ·rename_i t r
  split
  ·rename_i h2
   cases hu:which units r with
   | none=>exact aG (kI h2) (aL _ _)
   | some u =>
    obtain⟨t2,r2,rfl⟩:=cZ hu
    have f2:=eP hu zah
    show Good _ _ (if u=2 then _ else _)
    split
    ·split
     ·exact aG (s:=true) (kI h2) (aG f2 (aL _ _))
     ·exact⟨.inr (.inl rfl),by simp,zai,[t,t2],r2,rfl,by simp,il (kI h2) (il f2 iG)⟩
    ·exact aG (s:=true) (kI h2) (aG f2 (aL _ _))
  ·split
   ·rename_i ha
    exact aG (qE ha) (aL _ _)
   ·split
    ·rename_i ha
     exact aG (j6 ha zah) (aL _ _)
    ·split
     ·rename_i ha
      exact aG (s:=true||(true||false)) (j6 ha zah) (av (h r (by simp)) fun n r' _ _=>av (bn _ zah) fun _ r'' _ _=>aL _ _)
     ·split
      ·exact bH _ _
      ·rename_i ha
       refine aG (s:=true||(true||(true||(true||(true||false))))) (eP ha zah) (av (bn _ zah) fun _ r1 _ l1=>av (h r1 (by have:=l1 rfl;simp;omega)) fun a r2 _ l2=>av (bn _ zah) fun _ r3 _ l3=>av (h r3 (by have:=l1 rfl;have:=l2 rfl;have:=l3 rfl;simp;omega)) fun b r4 _ l4=>av (bn _ zah) fun _ r5 _ _=>aL _ _)
theorem rE (l:Nat):sSc ∉ signs l:=by
 unfold signs
 split<;>decide
theorem good_step {rec:Job->List Tok->Out Tree}{j0:Job}{ts0:List Tok}(h:∀j ts,nd j ts.length<nd j0 ts0.length->Good ts (strict j) (rec j ts)):Good ts0 (strict j0) (step M rec j0 ts0):=by
 cases j0 with
 | ex =>
  simp only[step]
  split
  ·rename_i hw
   obtain⟨t,r,rfl⟩:=bW hw
   have hx:∀q:List Tok,q.length<=r.length->Good q true (rec .ex q):=fun q hq=>h .ex q (by simp[nd];omega)
   refine aG (s:=true||(true||(true||(true||(true||false))))) (j6 hw zah) (av (hx _ (Nat.le_refl _)) fun a r1 l1 _=>av (bn _ zah) fun _ r2 l2 _=>av (hx _ (by simp at *;omega)) fun b r3 l3 _=>av (bn _ zah) fun _ r4 l4 _=>av (hx _ (by simp at *;omega)) fun c r5 _ _=>aL _ _)
  ·exact h (.row 0) ts0 (by simp[nd])
 | row l =>
  simp only[step]
  split
  ·exact oZ fun r hr=>h .ex r (by simp only[nd];omega)
  ·split
   ·split
    ·rename_i hw
     obtain⟨t,r,rfl⟩:=bW hw
     exact aG (s:=true||false) (j6 hw zah) (av (h (.row 2) r (by simp[nd];omega)) fun n r' _ _=>aL _ _)
    ·exact h (.row 3) ts0 (by simp only[nd];omega)
   ·refine eF (s:=true||false) (av (h (.row (l+1)) ts0 (by simp only[nd];omega)) fun n r _ hr=>?_) (fun _=>rfl)
    exact h (.loop l _ n) r (by simp only[nd];have:=hr rfl;omega)
 | loop l pl n =>
  simp only[step]
  cases hk:which (signs l) ts0 with
  | none=>exact aL _ _
  | some i =>
   obtain⟨t,r,rfl⟩:=cZ hk
   refine eF (s:=true) (aG (s:=true||false) (eP hk (fun h=>by have:=rE l;exact this h)) (av (h (.row (l+1)) r (by simp only[nd,List.length_cons];omega)) fun m r' _ hr=>?_)) (fun e=>by cases e)
   split
   ·exact aL _ _
   ·exact h (.loop l pl _) r' (by simp only[nd,List.length_cons];have:=hr rfl;omega)
theorem qU:∀(f:Nat) (j:Job) (ts:List Tok),nd j ts.length<=f->Good ts (strict j) (run M f j ts):=by
 intro f
 induction f with
 | zero=>intro j ts h;cases j<;>simp[nd] at h<;>omega
 | succ f ih=>intro j ts h;exact good_step fun j' ts' h'=>ih j' ts' zac
def rd (M:Int->Int->Int×Int×Int)(j:Job)(ts:List Tok):Out Tree:=run M (nd j ts.length) j ts
theorem aX (j:Job)(ts:List Tok):Good ts (strict j) (rd M j ts):=qU _ _ _ (Nat.le_refl _)
theorem CY {α:Type}{x y:Out α}{ts:List Tok}{s:Bool}(h:x.le y)(g:Good ts s x):x=y:=by
 rcases h with ⟨k,m,rfl⟩|h
 ·rcases g.1 with e|e|e<;>cases e
 ·exact h
theorem CU {f:Nat}{j:Job}{ts:List Tok}(h:nd j ts.length<=f):run M f j ts=rd M j ts:=(CY (qR h j ts) (aX j ts)).symm
theorem Di (f:Nat)(j:Job)(ts:List Tok):(run M f j ts).le (rd M j ts):=by
 by_cases h:nd j ts.length<=f
 ·rw[CU h];exact bv _
 ·exact qR zac j ts
theorem vM (j:Job)(n:Nat):0<nd j n:=by cases j<;>simp[nd]<;>omega
theorem fK (j:Job)(ts:List Tok):rd M j ts=step M (rd M) j ts:=by
 obtain⟨f,hf⟩:∃f,nd j ts.length=f+1:=⟨nd j ts.length-1,by have:=vM j ts.length;omega⟩
 have h:(run M (f+1) j ts).le (step M (rd M) j ts):=mO (Di f) j ts
 rw[<-hf] at h
 exact CY h (qU _ _ _ (Nat.le_refl _))
end
end Pa
end
section
namespace Pa
open Lx
theorem oV {ts:List Tok}:∀{l:List (List UInt8)} {i:Nat},(∀s∈l,isW s ts=false)->whichI l ts i=none:=by
 intro l
 induction l with
 | nil=>intro i _;rfl
 | cons s l ih =>
  intro i h
  rw[whichI,h s (by simp)]
  exact ih fun x hx=>h x (by simp[hx])
section
variable {α β:Type} {more:List Tok}
end
section
variable {M:Int->Int->Int×Int×Int} {more:List Tok}
variable {g:Tok->Tok}
end
end Pa
end
section
namespace Pa
open Lx
mutual
def Tree.siz:Tree->Nat
 | .mk _ _ _ _ _ _ ks=>dO ks+1
def dO:List Tree->Nat
 | []=>0
 | k::ks=>k.siz+dO ks
end
mutual
def Tree.dep:Tree->Nat
 | .mk _ _ _ _ _ _ ks=>gJ ks+1
def gJ:List Tree->Nat
 | []=>0
 | k::ks=>max k.dep (gJ ks)
end
def Tree.pl:Tree->Nat
 | .mk _ p _ _ _ _ _=>p
def big (n:Tree):Bool:=decide (200<n.siz)||decide (20<n.dep)
theorem ai {α β:Type}{x:Out α}{f:α->List Tok->Out β}{b:β}{r2:List Tok}(h:x.bind f = .ok b r2):∃a r,x = .ok a r/\f a r = .ok b r2:=by
 cases x with
 | ok a r=>exact⟨a,r,rfl,h⟩
 | er e k m=>cases h
section
variable {M:Int->Int->Int×Int×Int}
def FI (ts r:List Tok)(n:Tree):Prop:=r.length<n.pl/\n.pl<=ts.length
theorem dD {ts r:List Tok}{n:Tree}(h:n.pl=ts.length)(k:r.length<ts.length):FI ts r n:=⟨zac,zac⟩
theorem Bt:∀(N:Nat) (j:Job) (ts:List Tok) (n:Tree) (r:List Tok),nd j ts.length<=N->rd M j ts = .ok n r->match j with
  | .loop _ pl m=>(n=m/\r=ts)\/n.pl=pl
  | _=>FI ts r n:=by
 intro N
 induction N with
 | zero=>intro j ts n r h;have:=vM j ts.length;omega
 | succ N ih =>
  intro j ts n r hN h
  have g:=aX (M:=M) j ts
  rw[h] at g
  have gl:=g.len
  rw[fK] at h
  cases j with
  | ex =>
   simp only[step] at h
   by_cases hw:isW kIf ts=true
   ·rw[if_pos hw] at h
    obtain⟨a,r1,-,h⟩:=ai h
    obtain⟨_,r2,-,h⟩:=ai h
    obtain⟨b,r3,-,h⟩:=ai h
    obtain⟨_,r4,-,h⟩:=ai h
    obtain⟨c,r5,-,h⟩:=ai h
    cases h
    exact dD rfl (gl.2 rfl)
   ·rw[if_neg hw] at h
    exact ih (.row 0) ts n r zca h
  | row l =>
   simp only[step] at h
   by_cases h6:6<=l
   ·rw[if_pos h6] at h
    cases ts with
    | nil=>cases h
    | cons t r0 =>
     simp only[factor] at h
     by_cases h2:t.k=2
     ·simp only[h2,if_true] at h
      cases hu:which units r0 with
      | none =>
       rw[hu] at h
       cases h
       exact dD rfl (gl.2 rfl)
      | some u =>
       rw[hu] at h
       simp only[] at h
       by_cases hu2:u=2
       ·simp only[hu2,if_true] at h
        split at h
        ·cases h;exact dD rfl (gl.2 rfl)
        ·cases h
       ·simp only[hu2,if_false] at h
        cases h;exact dD rfl (gl.2 rfl)
     ·simp only[h2,if_false] at h
      split at h
      ·cases h;exact dD rfl (gl.2 rfl)
      ·split at h
       ·cases h;exact dD rfl (gl.2 rfl)
       ·split at h
        ·obtain⟨a,r1,h1,h⟩:=ai h
         obtain⟨_,r2,h3,h⟩:=ai h
         cases h
         have e:=ih .ex r0 _ r1 zaz h1
         have g3:Good r1 true (need sRp r1):=bn _ zah
         rw[h3] at g3
         have:=g3.len.2 rfl
         exact⟨by have:=e.1;omega,by have:=e.2;simp;omega⟩
        ·split at h
         ·cases h
         ·obtain⟨_,r1,-,h⟩:=ai h
          obtain⟨a,r2,-,h⟩:=ai h
          obtain⟨_,r3,-,h⟩:=ai h
          obtain⟨b,r4,-,h⟩:=ai h
          obtain⟨_,r5,-,h⟩:=ai h
          cases h
          exact dD rfl (gl.2 rfl)
   ·rw[if_neg h6] at h
    by_cases h2:l=2
    ·rw[if_pos h2] at h
     split at h
     ·obtain⟨a,r1,-,h⟩:=ai h
      cases h
      exact dD rfl (gl.2 rfl)
     ·exact ih (.row 3) ts n r zca h
    ·rw[if_neg h2] at h
     obtain⟨a,r1,h1,h⟩:=ai h
     have e:=ih (.row (l+1)) ts a r1 zca h1
     have g1:=aX (M:=M) (.row (l+1)) ts
     rw[h1] at g1
     have l1:=g1.len.2 rfl
     have e2:=ih (.loop l ts.length a) r1 n r zca h
     rcases e2 with ⟨rfl,rfl⟩|e2
     ·exact e
     ·exact dD e2 (gl.2 rfl)
  | loop l pl m =>
   simp only[step] at h
   cases hk:which (signs l) ts with
   | none=>rw[hk] at h;cases h;exact .inl ⟨rfl,rfl⟩
   | some i =>
    rw[hk] at h
    obtain⟨t,r0,rfl⟩:=cZ hk
    obtain⟨a,r1,h1,h⟩:=ai h
    rw[List.tail_cons] at h1
    have g1:=aX (M:=M) (.row (l+1)) r0
    rw[h1] at g1
    have l1:=g1.len.2 rfl
    split at h
    ·cases h;exact .inr rfl
    ·have e2:=ih (.loop l pl _) r1 n r zaz h
     rcases e2 with ⟨rfl,rfl⟩|e2
     ·exact .inr rfl
     ·exact .inr e2
theorem FQ {ts r:List Tok}{n:Tree}(h:rd M .ex ts = .ok n r):FI ts r n:=Bt _ .ex ts n r (Nat.le_refl _) h
end
structure Decl where
 name:List UInt8
 u:Nat
 lo:Int
 hi:Int
 pl:Nat
structure Rule where
 name:List UInt8
 ver:Int
 kind:Nat
 act:List UInt8
 fr:Int
 un:Int
 known:Int
 whn:Tree
 give:Tree
 pl:Nat
def nameO:List Tok->Out (List UInt8)
 | []=>bad []
 | t::r=>if isA (t::r) then .ok t.t r else bad (t::r)
def ae:List Tok->Out Int
 | []=>bad []
 | t::r=>if t.k=2 then (if t.d=1 then .ok t.n r else .er 3 (r.length+1) (r.length+1)) else bad (t::r)
def unitO (ts:List Tok):Out Nat:=match which units ts with
 | none=>bad ts
 | some u=> .ok u ts.tail
def aI {α:Type}(w:List UInt8)(p:List Tok->Out α)(d:α)(ts:List Tok):Out α:=if isW w ts then p ts.tail else .ok d ts
variable (M:Int->Int->Int×Int×Int)
def af (ts:List Tok):Out Tree:=(rd M .ex ts).bind fun n r=>if big n then .er 2 n.pl r.length else .ok n r
def lT (ts:List Tok):Out Decl :=
 (need dU ts).bind fun _ r1=>(nameO r1).bind fun nm r2=>(need sCo r2).bind fun _ r3=>(unitO r3).bind fun u r4=>(ae r4).bind fun lo r5=>(need kTo r5).bind fun _ r6=>(ae r6).bind fun hi r7=> .ok ⟨nm,u,lo,hi,ts.length⟩ r7
def aN (p:Nat):Tree:= .mk 17 p [] 0 0 1 []
def aK (p:Nat):Tree:= .mk 1 p [] 0 1 1 []
def mg (ts:List Tok):Out Rule:=match which kinds ts with
 | none=>bad ts
 | some k=>(nameO ts.tail).bind fun nm r1=>(ae r1).bind fun v r2=>(aI bC nameO [] r2).bind fun act r3=>(need dK r3).bind fun _ r4=>(ae r4).bind fun fr r5 =>
  (aI aV ae 36525 r5).bind fun un r6=>(need bf r6).bind fun _ r7=>(ae r7).bind fun kn r8=>(aI bD (af M) (aN ts.length) r8).bind fun wh r9 =>
  (aI bi (af M) (aK ts.length) r9).bind fun gi r10=> .ok ⟨nm,v,k+1,act,fr,un,kn,wh,gi,ts.length⟩ r10
inductive Item where
 | fact (d:Decl)
 | rule (r:Rule)
def jH (ts:List Tok):Out Item:=if isW dU ts then (lT ts).bind fun d r=> .ok (.fact d) r else (mg M ts).bind fun d r=> .ok (.rule d) r
def item (ts:List Tok):Out Item:=(jH M ts).bind fun d r=>(need sSc r).bind fun _ r=> .ok d r
def skip:List Tok->List Tok
 | []=>[]
 | t::r=>if isT sSc t then r else skip r
structure By where
 ds:List Decl
 rs:List Rule
 es:List (Int×Nat)
def By.add (c:By)(k:Nat):Item->By
 | .fact d=>if c.ds.length=12 then { c with es:=c.es++[(2,k)] } else { c with ds:=c.ds++[d] }
 | .rule d=>if c.rs.length=100 then { c with es:=c.es++[(2,k)] } else { c with rs:=c.rs++[d] }
def By.err (c:By)(e:Int)(k:Nat):By:={ c with es:=c.es++[(e,k)] }
def go:Nat->List Tok->By->By
 | 0,_,c=>c
 | f+1,ts,c=>if ts.length=0\/20<=c.es.length then c else
  match item M ts with
  | .ok d r=>go f r (c.add ts.length d)
  | .er e k m=>go f (skip (ts.drop (ts.length-m))) (c.err e k)
def parse (ts:List Tok):By:=go M ts.length ts ⟨[],[],[]⟩
end Pa
end
section
namespace Pa
open Lx
theorem eG (ts:List Tok):Good ts true (nameO ts):=by
 unfold nameO
 split
 ·exact bH _ _
 ·split
  ·rename_i h;exact aG (qE h) (aL _ _)
  ·exact bH _ _
theorem aU (ts:List Tok):Good ts true (ae ts):=by
 unfold ae
 split
 ·exact bH _ _
 ·rename_i t r
  split
  ·rename_i h
   split
   ·exact aG (kI h) (aL _ _)
   ·exact⟨.inr (.inl rfl),by simp,Nat.le_refl _,[],t::r,rfl,by simp,iG⟩
  ·exact bH _ _
theorem uX (ts:List Tok):Good ts true (unitO ts):=by
 unfold unitO
 cases h:which units ts with
 | none=>exact bH _ _
 | some u =>
  obtain⟨t,r,rfl⟩:=cZ h
  exact aG (eP h zah) (aL _ _)
theorem dR {α:Type}{w:List UInt8}{p:List Tok->Out α}{d:α}{s:Bool}(hw:w≠sSc)(hp:∀r,Good r s (p r))(ts:List Tok):Good ts false (aI w p d ts):=by
 unfold aI
 split
 ·rename_i h
  obtain⟨t,r,rfl⟩:=bW h
  exact eF (aG (j6 h hw) (hp r)) (fun e=>by cases e)
 ·exact aL _ _
section
variable {M:Int->Int->Int×Int×Int}
theorem dS (ts:List Tok):Good ts true (af M ts):=by
 unfold af
 have g:=aX (M:=M) .ex ts
 cases h:rd M .ex ts with
 | er e k m=>rw[h] at g;exact g
 | ok n r =>
  rw[h] at g
  have p:=FQ h
  rw[bind_ok]
  split
  ·obtain⟨pre,e,-,fp⟩:=g
   exact⟨.inl rfl,p.2,by have:=p.1;omega,pre,r,e,rfl,fp⟩
  ·exact g
theorem tq (ts:List Tok):Good ts true (lT ts) :=
 eF (s:=true||(true||(true||(true||(true||(true||(true||false))))))) (av (bn _ zah) fun _ _ _ _=>av (eG _) fun _ _ _ _=>av (bn _ zah) fun _ _ _ _=>av (uX _) fun _ _ _ _=>av (aU _) fun _ _ _ _=>av (bn _ zah) fun _ _ _ _=>av (aU _) fun _ _ _ _=>aL _ _) (fun _=>rfl)
theorem sw (ts:List Tok):Good ts true (mg M ts):=by
 unfold mg
 cases h:which kinds ts with
 | none=>exact bH _ _
 | some k =>
  obtain⟨t,r,rfl⟩:=cZ h
  exact aG (s:=true||(true||(false||(true||(true||(false||(true||(true||(false||(false||false)))))))))) (eP h zah) (av (eG _) fun _ _ _ _=>av (aU _) fun _ _ _ _=>av (dR zah eG _) fun _ _ _ _=>av (bn _ zah) fun _ _ _ _=>av (aU _) fun _ _ _ _=>av (dR zah aU _) fun _ _ _ _=>av (bn _ zah) fun _ _ _ _=>av (aU _) fun _ _ _ _=>av (dR zah dS _) fun _ _ _ _=>av (dR zah dS _) fun _ _ _ _=>aL _ _)
theorem iU (ts:List Tok):Good ts true (jH M ts):=by
 unfold jH
 split
 ·exact eF (s:=true||false) (av (tq _) fun _ _ _ _=>aL _ _) (fun _=>rfl)
 ·exact eF (s:=true||false) (av (sw _) fun _ _ _ _=>aL _ _) (fun _=>rfl)
def EQ {α:Type}(ts:List Tok):Out α->Prop
 | .ok _ r=>∃pre t,ts=pre++t::r/\uj pre/\isT sSc t=true
 | .er e k m=>(e=2\/e=3\/e=10)/\k<=ts.length/\m<=k/\∃pre q,ts=pre++q/\q.length=m/\uj pre
theorem dJ (ts:List Tok):EQ ts (item M ts):=by
 unfold item
 have g:=iU (M:=M) ts
 cases h:jH M ts with
 | er e k m=>rw[h] at g;exact g
 | ok d r =>
  rw[h] at g
  rw[bind_ok]
  obtain⟨pre,rfl,-,fp⟩:=g
  unfold need
  by_cases hs:isW sSc r=true
  ·obtain⟨t,r2,rfl⟩:=bW hs
   rw[if_pos hs]
   exact⟨pre,t,rfl,fp,hs⟩
  ·rw[if_neg hs]
   exact⟨.inr (.inr rfl),by simp,Nat.le_refl _,pre,r,rfl,rfl,fp⟩
variable {more:List Tok}
variable {g:Tok->Tok}
end
end Pa
end
section
namespace Pa
open Lx
section
variable {M:Int->Int->Int×Int×Int}
theorem mh:∀ts:List Tok,(skip ts).length<=ts.length-1:=by
 intro ts
 induction ts with
 | nil=>exact Nat.le_refl _
 | cons t r ih =>
  rw[skip]
  split
  ·simp
  ·simp at ih |-;omega
theorem fH {ts r:List Tok}{d:Item}(h:item M ts = .ok d r):r.length<ts.length:=by
 have g:=dJ (M:=M) ts
 rw[h] at g
 obtain⟨pre,t,rfl,-,-⟩:=g
 simp;omega
theorem fG {ts:List Tok}{e:Int}{k m:Nat}(h:item M ts = .er e k m)(h0:ts.length≠0):(skip (ts.drop (ts.length-m))).length<ts.length/\(skip (ts.drop (ts.length-m))).length<=m-1/\k<=ts.length/\m<=k:=by
 have g:=dJ (M:=M) ts
 rw[h] at g
 have h1:=g.2.1
 have h2:=g.2.2.1
 have h3:=mh (ts.drop (ts.length-m))
 rw[List.length_drop] at h3
 omega
theorem A7:∀(f g:Nat) (ts:List Tok) (c:By),ts.length<=f->ts.length<=g->go M f ts c=go M g ts c:=by
 intro f
 induction f with
 | zero =>
  intro g ts c h _
  cases g with
  | zero=>rfl
  | succ g=>rw[go,go,if_pos (.inl zac)]
 | succ f ih =>
  intro g ts c h k
  cases g with
  | zero=>rw[go,go,if_pos (.inl zac)]
  | succ g =>
   rw[go,go]
   split
   ·rfl
   ·rename_i hc
    cases hi:item M ts with
    | ok d r=>exact ih g r _ (by have:=fH hi;omega) (by have:=fH hi;omega)
    | er e k' m =>
     have:=fG hi (fun e=>hc (.inl e))
     exact ih g _ _ zac zac
def gof (M:Int->Int->Int×Int×Int)(ts:List Tok)(c:By):By:=go M ts.length ts c
theorem lZ (c:By):gof M [] c=c:=rfl
theorem mq {ts:List Tok}{c:By}(h:20<=c.es.length):gof M ts c=c:=by
 unfold gof
 cases ts.length with
 | zero=>rfl
 | succ n=>rw[go,if_pos (.inr h)]
theorem kH {ts r:List Tok}{c:By}{d:Item}(h:¬20<=c.es.length)(hi:item M ts = .ok d r):gof M ts c=gof M r (c.add ts.length d):=by
 have hl:=fH hi
 exact DV
theorem nG {ts:List Tok}{c:By}{e:Int}{k m:Nat}(h0:ts≠[])(h:¬20<=c.es.length)(hi:item M ts = .er e k m):gof M ts c=gof M (skip (ts.drop (ts.length-m))) (c.err e k):=by
 have h1:ts.length≠0:=fun e=>h0 (List.length_eq_zero_iff.1 e)
 have hl:=fG hi h1
 exact DV
theorem mG {P:List Tok->By->By->Prop}(h1:∀ts c,ts=[]\/20<=c.es.length->P ts c c)
  (h2:∀ts r c d,¬20<=c.es.length->item M ts = .ok d r->ts≠[]->P r (c.add ts.length d) (gof M r (c.add ts.length d))->P ts c (gof M r (c.add ts.length d)))
  (h3:∀ts c e k m,ts≠[]->¬20<=c.es.length->item M ts = .er e k m->P (skip (ts.drop (ts.length-m))) (c.err e k) (gof M (skip (ts.drop (ts.length-m))) (c.err e k))->P ts c (gof M (skip (ts.drop (ts.length-m))) (c.err e k))) :
  ∀(n:Nat) (ts:List Tok) (c:By),ts.length<=n->P ts c (gof M ts c):=by
 intro n
 induction n with
 | zero =>
  intro ts c h
  obtain rfl:ts=[]:=List.length_eq_zero_iff.1 zac
  rw[lZ]
  exact h1 _ _ (.inl rfl)
 | succ n ih =>
  intro ts c h
  by_cases h0:ts=[]
  ·subst h0;rw[lZ];exact h1 _ _ (.inl rfl)
  ·by_cases hf:20<=c.es.length
   ·rw[mq hf];exact h1 _ _ (.inr hf)
   ·have hl:ts.length≠0:=fun e=>h0 (List.length_eq_zero_iff.1 e)
    cases hi:item M ts with
    | ok d r =>
     rw[kH hf hi]
     exact h2 _ _ _ _ hf hi h0 (ih _ _ (by have:=fH hi;omega))
    | er e k m =>
     rw[nG h0 hf hi]
     exact h3 _ _ _ _ _ h0 hf hi (ih _ _ (by have:=fG hi hl;omega))
theorem tZ (c:By)(k:Nat)(d:Item):((c.add k d).es=c.es/\(c.add k d).ds.length+(c.add k d).rs.length=c.ds.length+c.rs.length+1)\/((c.add k d).es=c.es++[(2,k)]/\(c.add k d).ds=c.ds/\(c.add k d).rs=c.rs):=by
 cases d with
 | fact d =>
  simp only[By.add]
  by_cases h:c.ds.length=12
  ·rw[if_pos h];exact .inr ⟨rfl,rfl,rfl⟩
  ·rw[if_neg h];exact .inl ⟨rfl,zai⟩
 | rule d =>
  simp only[By.add]
  by_cases h:c.rs.length=100
  ·rw[if_pos h];exact .inr ⟨rfl,rfl,rfl⟩
  ·rw[if_neg h];exact .inl ⟨rfl,zai⟩
structure Inv (N:Nat) (ts:List Tok) (c:By):Prop where
 dec:c.es.Pairwise (fun p q=>q.2<p.2)
 low:ts=[]\/∀p∈c.es,ts.length<p.2
 top:c.es.length<=20
 cod:∀p∈c.es,p.1=2\/p.1=3\/p.1=10
 bnd:∀p∈c.es,p.2<=N
theorem wN {N:Nat}{ts ts':List Tok}{c c':By}{e:Int}{k:Nat}(h:Inv N ts c)(h0:ts≠[])(hf:¬20<=c.es.length)(hes:c'.es=c.es++[(e,k)])(hk:k<=ts.length)(hN:ts.length<=N)(he:e=2\/e=3\/e=10)(hl:ts'.length<=k-1):Inv N ts' c':=by
 have low:=h.low.resolve_left h0
 constructor
 ·rw[hes,List.pairwise_append]
  refine⟨h.dec,by simp,fun p hp q hq=>?_⟩
  rw[List.mem_singleton] at hq
  subst hq
  have:=low p hp
  show k<p.2
  omega
 ·by_cases h':ts'=[]
  ·exact .inl h'
  ·right
   have:ts'.length≠0:=fun e=>h' (List.length_eq_zero_iff.1 e)
   intro p hp
   rw[hes,List.mem_append,List.mem_singleton] at hp
   rcases hp with hp|rfl
   ·have:=low p hp;omega
   ·show ts'.length<k;omega
 ·rw[hes,List.length_append,List.length_singleton];omega
 ·intro p hp
  rw[hes,List.mem_append,List.mem_singleton] at hp
  rcases hp with hp|rfl
  ·exact h.cod p hp
  ·exact he
 ·intro p hp
  rw[hes,List.mem_append,List.mem_singleton] at hp
  rcases hp with hp|rfl
  ·exact h.bnd p hp
  ·show k<=N;omega
theorem BQ {N:Nat}:∀(ts:List Tok) (c:By),ts.length<=N->Inv N ts c->Inv N [] (gof M ts c):=by
 intro ts c
 refine mG (M:=M) (P:=fun ts c c'=>ts.length<=N->Inv N ts c->Inv N [] c') ?_ ?_ ?_ ts.length ts c (Nat.le_refl _)
 ·intro ts c h hN hi
  exact⟨hi.dec,.inl rfl,hi.top,hi.cod,hi.bnd⟩
 ·intro ts r c d hf hi h0 ih hN hc
  have hl:=fH hi
  refine ih zac ?_
  rcases tZ c ts.length d with ⟨e1,-⟩|⟨e1,-⟩
  ·refine⟨by rw[e1];exact hc.dec,.inr fun p hp=>?_,by rw[e1];exact hc.top,by rw[e1];exact hc.cod,by rw[e1];exact hc.bnd⟩
   rw[e1] at hp
   have:=hc.low.resolve_left h0 p hp
   omega
  ·exact wN hc h0 hf e1 (Nat.le_refl _) hN (.inl rfl) zac
 ·intro ts c e k m h0 hf hi ih hN hc
  have hl:=fG hi (fun e=>h0 (List.length_eq_zero_iff.1 e))
  have g:=dJ (M:=M) ts
  rw[hi] at g
  exact ih zac (wN hc h0 hf rfl hl.2.2.1 hN g.1 zac)
theorem vE (ts:List Tok):Inv ts.length [] (parse M ts):=BQ ts ⟨[],[],[]⟩ (Nat.le_refl _) ⟨by simp,.inr (by simp),by simp,by simp,by simp⟩
theorem CR:∀(ts:List Tok) (c:By),c.es <+: (gof M ts c).es:=by
 intro ts c
 refine mG (M:=M) (P:=fun ts c c'=>c.es <+: c'.es) ?_ ?_ ?_ ts.length ts c (Nat.le_refl _)
 ·intro ts c _;exact List.prefix_refl _
 ·intro ts r c d _ _ _ ih
  refine List.IsPrefix.trans ?_ ih
  rcases tZ c ts.length d with ⟨e,-⟩|⟨e,-⟩<;>rw[e]
  ·exact List.prefix_refl _
  ·exact List.prefix_append _ _
 ·intro ts c e k m _ _ _ ih
  exact List.IsPrefix.trans (List.prefix_append _ _) ih
theorem zO {ts:List Tok}{c:By}(h:(gof M ts c).es=[]):c.es=[]:=by
 have:=CR (M:=M) ts c
 rw[h] at this
 exact List.prefix_nil.1 this
def j3 (ts:List Tok):Nat:=ts.countP (isT sSc)
theorem rJ {ts:List Tok}(h:uj ts):j3 ts=0:=by
 unfold j3
 rw[List.countP_eq_zero]
 intro t ht
 rw[h t ht];simp
theorem rD {ts r:List Tok}{d:Item}(h:item M ts = .ok d r):j3 ts=j3 r+1:=by
 have g:=dJ (M:=M) ts
 rw[h] at g
 obtain⟨pre,t,rfl,fp,ht⟩:=g
 have:=rJ fp
 unfold j3 at *
 rw[List.countP_append,this,List.countP_cons,ht];simp
theorem vR:∀(ts:List Tok) (c:By),(gof M ts c).es=[]->(gof M ts c).ds.length+(gof M ts c).rs.length=c.ds.length+c.rs.length+j3 ts:=by
 intro ts c
 refine mG (M:=M) (P:=fun ts c c'=>c'.es=[]->c'.ds.length+c'.rs.length=c.ds.length+c.rs.length+j3 ts) ?_ ?_ ?_ ts.length ts c (Nat.le_refl _)
 ·intro ts c h he
  rcases h with rfl|h
  ·simp[j3]
  ·rw[he] at h;simp at h
 ·intro ts r c d hf hi h0 ih he
  have h1:=ih he
  have h2:=zO he
  have h3:=rD hi
  rcases tZ c ts.length d with ⟨-,e⟩|⟨e,-⟩
  ·omega
  ·rw[e] at h2;simp at h2
 ·intro ts c e k m h0 hf hi ih he
  have h2:=zO he
  simp[By.err] at h2
theorem pR (ts:List Tok)(h:(parse M ts).es=[]):(parse M ts).ds.length+(parse M ts).rs.length=j3 ts:=by
 have:=vR (M:=M) ts ⟨[],[],[]⟩ h
 simpa[parse,gof] using this
end
end Pa
end
end Go.Proofs.YtnjfolljbfkojaaGreatDoor
