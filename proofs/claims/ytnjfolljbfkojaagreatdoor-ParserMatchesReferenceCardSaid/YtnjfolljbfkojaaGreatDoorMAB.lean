import Derived.Test.YtnjfolljbfkojaaGreatDoorMini
set_option maxRecDepth 100000
set_option maxHeartbeats 20000000
namespace Go.Proofs.YtnjfolljbfkojaaGreatDoor
open Go.Value renaming int→zI
open Go.IntKind renaming i64→zL
open Go.Lib renaming hid→zH
namespace Q
def Val (n d:Int):Prop:=-1000000000<=n/\n<=1000000000/\1<=d/\d<=1000000000/\Nat.gcd n.natAbs d.natAbs=1
def red (n d:Int):Option (Int×Int) :=
 if n.natAbs/Nat.gcd n.natAbs d.natAbs > 1000000000\/d.natAbs/Nat.gcd n.natAbs d.natAbs > 1000000000 then none
 else if n<0↔d<0 then some (((n.natAbs/Nat.gcd n.natAbs d.natAbs:Nat):Int),((d.natAbs/Nat.gcd n.natAbs d.natAbs:Nat):Int))
 else some (-((n.natAbs/Nat.gcd n.natAbs d.natAbs:Nat):Int),((d.natAbs/Nat.gcd n.natAbs d.natAbs:Nat):Int))
theorem parts (n d:Int)(hd:d≠0):∃g x y:Nat,0<g/\g=Nat.gcd n.natAbs d.natAbs/\n.natAbs=x*g/\d.natAbs=y*g/\Nat.gcd x y=1/\0<y /\
  n.natAbs/Nat.gcd n.natAbs d.natAbs=x/\d.natAbs/Nat.gcd n.natAbs d.natAbs=y:=by
 have hg:0<Nat.gcd n.natAbs d.natAbs:=Nat.gcd_pos_of_pos_right _ zac
 obtain⟨x,hx⟩:=Nat.gcd_dvd_left n.natAbs d.natAbs
 obtain⟨y,hy⟩:=Nat.gcd_dvd_right n.natAbs d.natAbs
 have ex:n.natAbs/Nat.gcd n.natAbs d.natAbs=x:=Nat.div_eq_of_eq_mul_right hg hx
 have ey:d.natAbs/Nat.gcd n.natAbs d.natAbs=y:=Nat.div_eq_of_eq_mul_right hg hy
 refine⟨_,x,y,hg,rfl,by rw[Nat.mul_comm];exact hx,by rw[Nat.mul_comm];exact hy,?_,?_,ex,ey⟩
 ·have h:=Nat.gcd_mul_left (Nat.gcd n.natAbs d.natAbs) x y
  rw[<-hx,<-hy] at h
  have h1:Nat.gcd n.natAbs d.natAbs*Nat.gcd x y=Nat.gcd n.natAbs d.natAbs*1:=by rw[<-h,Nat.mul_one]
  exact Nat.eq_of_mul_eq_mul_left hg h1
 ·rcases Nat.eq_zero_or_pos y with h|h
  ·rw[h] at hy;omega
  ·exact h
theorem red_val {n d p q:Int}(hd:d≠0)(h:red n d=some (p,q)):Val p q/\n*q=p*d:=by
 obtain⟨g,x,y,hg,_,hx,hy,hxy,hy0,ex,ey⟩:=parts n d hd
 unfold red at h
 rw[ex,ey] at h
 split at h
 ·cases h
 ·rename_i hle
  have hn:n=x*g\/n = -((x:Int)*g):=by
   have:((x*g:Nat):Int)=(x:Int)*g:=Int.natCast_mul x g
   omega
  have hd':d=y*g\/d = -((y:Int)*g):=by
   have:((y*g:Nat):Int)=(y:Int)*g:=Int.natCast_mul y g
   omega
  have hgz:(0:Int)<g:=zac
  have hyz:(0:Int)<y:=zac
  have hxz:(0:Int)<=x:=zac
  have hyg:(0:Int)<(y:Int)*g:=Int.mul_pos hyz hgz
  have hxg:(0:Int)<=(x:Int)*g:=Int.mul_nonneg hxz zac
  split at h
  ·rename_i hs
   obtain⟨rfl,rfl⟩:(x:Int)=p/\(y:Int)=q:=zbt
   refine⟨⟨zac,zac,zac,zac,by simpa using hxy⟩,?_⟩
   rcases hn with hn|hn<;>rcases hd' with hd'|hd'
   ·rw[hn,hd'];grind
   ·exfalso;have h1:¬n<0:=by omega
    have h2:d<0:=zac
    exact h1 (hs.2 h2)
   ·by_cases hx0:(x:Int)=0
    ·rw[hn,hx0];simp
    ·exfalso
     have:(0:Int)<(x:Int)*g:=Int.mul_pos zac hgz
     have h1:n<0:=zac
     have h2:¬d<0:=zac
     exact h2 (hs.1 h1)
   ·rw[hn,hd'];grind
  ·rename_i hs
   obtain⟨rfl,rfl⟩ : -(x:Int)=p/\(y:Int)=q:=zbt
   refine⟨⟨zac,zac,zac,zac,by simpa using hxy⟩,?_⟩
   rcases hn with hn|hn<;>rcases hd' with hd'|hd'
   ·exfalso;exact hs ⟨fun _=> zac,fun _=> zac⟩
   ·rw[hn,hd'];grind
   ·rw[hn,hd'];grind
   ·by_cases hx0:(x:Int)=0
    ·rw[hn,hx0];simp
    ·exfalso
     have:(0:Int)<(x:Int)*g:=Int.mul_pos zac hgz
     exact hs ⟨fun _=> zac,fun _=> zac⟩
theorem red_of {n d p q:Int}(hd:d≠0)(hv:Val p q)(h:n*q=p*d):red n d=some (p,q):=by
 obtain⟨v1,v2,v3,v4,v5⟩:=hv
 have e:n.natAbs*q.natAbs=p.natAbs*d.natAbs:=by rw[<-Int.natAbs_mul,<-Int.natAbs_mul,h]
 have hq:q.natAbs∣d.natAbs:=by
  have h1:q.natAbs∣p.natAbs*d.natAbs:=⟨n.natAbs,by rw[<-e,Nat.mul_comm]⟩
  exact Nat.Coprime.dvd_of_dvd_mul_left (by rw[Nat.Coprime,Nat.gcd_comm];exact v5) h1
 obtain⟨k,hk⟩:=hq
 have hk0:0<k:=by
  rcases Nat.eq_zero_or_pos k with h|h
  ·rw[h] at hk;omega
  ·exact h
 have hn:n.natAbs=p.natAbs*k:=by
  have:n.natAbs*q.natAbs=(p.natAbs*k)*q.natAbs:=by rw[e,hk];grind
  exact Nat.eq_of_mul_eq_mul_right zac this
 have hg:Nat.gcd n.natAbs d.natAbs=k:=by
  rw[hn,hk,Nat.gcd_mul_right,v5,Nat.one_mul]
 have ex:n.natAbs/Nat.gcd n.natAbs d.natAbs=p.natAbs:=by rw[hg,hn];exact Nat.mul_div_cancel _ hk0
 have ey:d.natAbs/Nat.gcd n.natAbs d.natAbs=q.natAbs:=by rw[hg,hk];exact Nat.mul_div_cancel _ hk0
 unfold red
 rw[ex,ey,if_neg zac]
 have hqz:(q.natAbs:Int)=q:=zac
 have hq0:0<q:=zac
 rcases Int.lt_trichotomy p 0 with hp|hp|hp
 ·have hs:¬(n<0↔d<0):=by
   intro hs
   rcases Int.lt_trichotomy d 0 with h1|h1|h1
   ·have a:=Int.mul_pos_of_neg_of_neg hp h1
    have b:=Int.mul_neg_of_neg_of_pos (hs.2 h1) hq0
    omega
   ·exact hd h1
   ·have a:=Int.mul_neg_of_neg_of_pos hp h1
    have h2:¬n<0:=fun x=>by have:=hs.1 x;omega
    have b:=Int.mul_nonneg (by omega:0<=n) (by omega:0<=q)
    omega
  rw[if_neg hs]
  simp only[Option.some.injEq,Prod.mk.injEq];omega
 ·subst hp
  split<;>(simp only[Option.some.injEq,Prod.mk.injEq];omega)
 ·have hs:n<0↔d<0:=by
   rcases Int.lt_trichotomy d 0 with h1|h1|h1
   ·refine⟨fun _=>h1,fun _=>?_⟩
    have a:=Int.mul_neg_of_pos_of_neg hp h1
    rcases Int.lt_or_le n 0 with h2|h2
    ·exact h2
    ·have b:=Int.mul_nonneg h2 (by omega:0<=q);omega
   ·exact absurd h1 hd
   ·refine⟨fun h2=>?_,fun h2=> zac⟩
    have a:=Int.mul_pos hp h1
    have b:=Int.mul_neg_of_neg_of_pos h2 hq0
    omega
  rw[if_pos hs]
  simp only[Option.some.injEq,Prod.mk.injEq];omega
theorem red_mul {n d k:Int}(hd:d≠0)(hk:k≠0):red (k*n) (k*d)=red n d:=by
 have hkd:k*d≠0:=Int.mul_ne_zero hk hd
 cases h:red n d with
 | some r =>
  obtain⟨p,q⟩:=r
  obtain⟨hv,e⟩:=red_val hd h
  exact red_of hkd hv (by grind)
 | none =>
  cases h':red (k*n) (k*d) with
  | none=>rfl
  | some r =>
   obtain⟨p,q⟩:=r
   obtain⟨hv,e⟩:=red_val hkd h'
   have:n*q=p*d:=Int.eq_of_mul_eq_mul_left hk (by grind)
   rw[red_of hd hv this] at h;cases h
end Q
namespace Lx
def ltr (c:UInt8):Bool:=decide (97<=c.toNat)&&decide (c.toNat<=122)
def dgt (c:UInt8):Bool:=decide (48<=c.toNat)&&decide (c.toNat<=57)
def wrd (c:UInt8):Bool:=ltr c||dgt c||decide (c.toNat=95)
def nmb (c:UInt8):Bool:=wrd c||decide (c.toNat=46)
def lin (c:UInt8):Bool:=decide (c.toNat≠10)
def blk (c:UInt8):Bool:=decide (c.toNat=32)||decide (c.toNat=9)||decide (c.toNat=10)||decide (c.toNat=13)
theorem jS {p:UInt8->Prop}(h:∀k:Fin 256,p (UInt8.ofNat k.val))(c:UInt8):p c:=by
 have:=h ⟨c.toNat,c.toNat_lt⟩
 simpa using this
theorem eY:∀c:UInt8,blk c=true->wrd c=false/\nmb c=false/\ltr c=false/\dgt c=false/\c.toNat≠61/\c.toNat≠35 :=
 jS (by decide +kernel)
theorem pu:∀c:UInt8,ltr c=true->blk c=false/\c.toNat≠35/\dgt c=false/\wrd c=true:=jS (by decide +kernel)
theorem pU:∀c:UInt8,dgt c=true->blk c=false/\c.toNat≠35/\ltr c=false/\nmb c=true/\c.toNat≠46:=jS (by decide +kernel)
def gp:Bool->List UInt8->Nat
 | _,[]=>0
 | true,c::l=>if c.toNat=10 then 1+gp false l else 1+gp true l
 | false,c::l=>if c.toNat=35 then 1+gp true l else if blk c=true then 1+gp false l else 0
theorem iP:∀(l:List UInt8) (b:Bool),gp b l<=l.length
 | [],b=>by cases b<;>simp[gp]
 | c::l,true=>by
  have h1:=iP l false;have h2:=iP l true
  simp only[gp,List.length_cons];split<;>omega
 | c::l,false=>by
  have h1:=iP l false;have h2:=iP l true
  simp only[gp,List.length_cons];split
  ·omega
  ·split<;>omega
theorem kG:∀(l:List UInt8) (b:Bool) (k:Nat),k<=gp b l->gp b (l.take k)=k
 | [],b,k,h=>by cases b<;>simp[gp] at h |-<;>omega
 | c::l,b,0,h=>by cases b<;>simp[gp]
 | c::l,true,k+1,h=>by
  simp only[gp,List.take_succ_cons] at h |-
  split at h
  ·rename_i e;rw[if_pos e,kG l false k zac];omega
  ·rename_i e;rw[if_neg e,kG l true k zac];omega
 | c::l,false,k+1,h=>by
  simp only[gp,List.take_succ_cons] at h |-
  split at h
  ·rename_i e;rw[if_pos e,kG l true k zac];omega
  ·rename_i e
   rw[if_neg e]
   split at h
   ·rename_i e2;rw[if_pos e2,kG l false k zac];omega
   ·omega
theorem fM:∀(l:List UInt8) (b:Bool),gp b l<l.length->gp false (l.drop (gp b l))=0/\∀x,gp b (l.take (gp b l)++x)=gp b l+gp false x
 | [],b,h=>by simp at h
 | c::l,true,h=>by
  simp only[gp,List.length_cons] at h |-
  split at h
  ·rename_i e
   obtain⟨h1,h2⟩:=fM l false zac
   exact CJ
  ·rename_i e
   obtain⟨h1,h2⟩:=fM l true zac
   rw[if_neg e,Nat.add_comm 1,List.drop_succ_cons,List.take_succ_cons]
   refine⟨h1,fun x=>?_⟩
   rw[List.cons_append,gp,if_neg e,h2];omega
 | c::l,false,h=>by
  simp only[gp,List.length_cons] at h |-
  split at h
  ·rename_i e
   obtain⟨h1,h2⟩:=fM l true zac
   exact CJ
  ·rename_i e
   rw[if_neg e]
   split at h
   ·rename_i e2
    obtain⟨h1,h2⟩:=fM l false zac
    rw[if_pos e2,Nat.add_comm 1,List.drop_succ_cons,List.take_succ_cons]
    refine⟨h1,fun x=>?_⟩
    rw[List.cons_append,gp,if_neg e,if_pos e2,h2];omega
   ·rename_i e2
    rw[if_neg e2]
    refine⟨?_,fun x=>?_⟩
    ·simp only[List.drop_zero,gp];rw[if_neg e,if_neg e2]
    ·simp
theorem iN:∀(l:List UInt8) (b:Bool),gp b l=l.length->∀x,gp b (l++10::x)=l.length+1+gp false x
 | [],b,_,x=>by
  cases b
  ·simp only[List.nil_append,gp];rw[if_neg zah,if_pos zah];simp
  ·simp only[List.nil_append,gp];rw[if_pos zah];simp
 | c::l,true,h,x=>by
  simp only[gp,List.length_cons,List.cons_append] at h |-
  split at h
  ·rename_i e;rw[if_pos e,iN l false zac];omega
  ·rename_i e;rw[if_neg e,iN l true zac];omega
 | c::l,false,h,x=>by
  simp only[gp,List.length_cons,List.cons_append] at h |-
  split at h
  ·rename_i e;rw[if_pos e,iN l true zac];omega
  ·rename_i e
   rw[if_neg e]
   split at h
   ·rename_i e2;rw[if_pos e2,iN l false zac];omega
   ·omega
theorem gG:∀(l x y:List UInt8) (b:Bool),gp b (l++x)<l.length->gp b (l++y)=gp b (l++x)
 | [],_,_,_,h=>by simp at h
 | c::l,x,y,true,h=>by
  simp only[gp,List.length_cons,List.cons_append] at h |-
  split at h
  ·rename_i e;rw[if_pos e,if_pos e,gG l x y false zac]
  ·rename_i e;rw[if_neg e,if_neg e,gG l x y true zac]
 | c::l,x,y,false,h=>by
  simp only[gp,List.length_cons,List.cons_append] at h |-
  split at h
  ·rename_i e;rw[if_pos e,if_pos e,gG l x y true zac]
  ·rename_i e
   rw[if_neg e,if_neg e]
   split at h
   ·rename_i e2;rw[if_pos e2,if_pos e2,gG l x y false zac]
   ·rename_i e2;rw[if_neg e2,if_neg e2]
def zS (c:UInt8):Bool:=[123,125,40,41,59,44,58,43,45,42,47,61].contains c.toNat
def sgn:List UInt8->Nat
 | []=>0
 | c::l =>
  if c.toNat=33 then (if l.head? = some 61 then 2 else 0)
  else if c.toNat=60\/c.toNat=62 then (if l.head? = some 61 then 2 else 1)
  else if zS c=true then 1 else 0
theorem ui (l:List UInt8):sgn l<=l.length:=by
 cases l with
 | nil=>simp[sgn]
 | cons c l =>
  have h:l.head? = some 61->1<=l.length:=by
   intro h;cases l with
   | nil=>simp at h
   | cons _ _=>simp
  simp only[sgn,List.length_cons]
  split
  ·split
   ·have:=h (by assumption);omega
   ·omega
  ·split
   ·split
    ·have:=h (by assumption);omega
    ·omega
   ·split<;>omega
theorem AP (l:List UInt8):sgn l<=2:=by
 cases l with
 | nil=>simp[sgn]
 | cons c l =>
  simp only[sgn];repeat' split
  all_goals omega
def rY (l:List UInt8):Nat:=l.foldl (fun a c=>a*10+(c.toNat-48)) 0
def oG (l:List UInt8):Bool:=l.all dgt
def gU (l:List UInt8)(k:Nat):Bool:=decide (l≠[])&&decide (l.length<=k)&&oG l
def whole (l:List UInt8):List UInt8:=l.takeWhile (fun c=>decide (c.toNat≠46))
def behind (l:List UInt8):List UInt8:=l.dropWhile (fun c=>decide (c.toNat≠46))
def frm (l:List UInt8):Bool:=gU (whole l) 9&&(decide (behind l=[])||gU (behind l).tail 2)
def hun (l:List UInt8):Nat:=rY (whole l++((behind l).tail++[48,48]).take 2)
structure Tok where
 k:Int
 a:Int
 t:List UInt8
 n:Int
 d:Int
inductive Nx where
 | er (e:Int)
 | ok (t:Tok) (n:Nat)
def nx (V:Nat->Int×Int×Int):List UInt8->Nx
 | []=> .er 0
 | c::l =>
  if ltr c=true then
   (if 16<((c::l).takeWhile wrd).length then .er 2 else .ok ⟨1,0,(c::l).takeWhile wrd,0,0⟩ ((c::l).takeWhile wrd).length)
  else if dgt c=true then
   (if frm ((c::l).takeWhile nmb)=true then
    (if (V (hun ((c::l).takeWhile nmb))).2.2=0 then .ok ⟨2,0,[],(V (hun ((c::l).takeWhile nmb))).1,(V (hun ((c::l).takeWhile nmb))).2.1⟩ ((c::l).takeWhile nmb).length else .er 3)
    else .er 8)
  else if sgn (c::l)=0 then .er 10 else .ok ⟨3,0,(c::l).take (sgn (c::l)),0,0⟩ (sgn (c::l))
def mov (i:Int)(t:Tok):Tok:={ t with a:=t.a+i }
inductive Res where
 | er (e:Int) (a:Nat)
 | ok (l:List Tok)
def Res.app (l:List Tok):Res->Res
 | .er e a=> .er e a
 | .ok m=> .ok (l++m)
def lx (V:Nat->Int×Int×Int):Nat->Nat->List UInt8->Res
 | 0,i,l=>if gp false l=l.length then .ok [] else .er 2 (i+gp false l)
 | f+1,i,l =>
  if gp false l=l.length then .ok [] else
  match nx V (l.drop (gp false l)) with
  | .er e=> .er e (i+gp false l)
  | .ok t n=>(lx V f (i+gp false l+n) (l.drop (gp false l+n))).app [mov (i+gp false l:Nat) t]
def lex (V:Nat->Int×Int×Int)(l:List UInt8):Res:=if 8000<l.length then .er 2 0 else lx V 2000 0 l
end Lx
section
namespace Pa
open Lx
def bC:List UInt8:=[97,98,111,117,116]
def Ct:List UInt8:=[97,110,100]
def xz:List UInt8:=[97,114,101,97]
def wS:List UInt8:=[100,97,121,115]
def cu:List UInt8:=[101,108,115,101]
def xe:List UInt8:=[102,108,97,103]
def dK:List UInt8:=[102,114,111,109]
def bi:List UInt8:=[103,105,118,101]
def kIf:List UInt8:=[105,102]
def bf:List UInt8:=[107,110,111,119,110]
def iy:List UInt8:=[109,97,120]
def gX:List UInt8:=[109,105,110]
def nY:List UInt8:=[109,111,110,101,121]
def oH:List UInt8:=[110,111,116]
def kr:List UInt8:=[110,117,109,98,101,114]
def kOr:List UInt8:=[111,114]
def dL:List UInt8:=[116,104,101,110]
def kTo:List UInt8:=[116,111]
def bB:List UInt8:=[116,114,117,101]
def aV:List UInt8:=[117,110,116,105,108]
def bD:List UInt8:=[119,104,101,110]
def dU:List UInt8:=[102,97,99,116]
def sLp:List UInt8:=[40]
def sRp:List UInt8:=[41]
def sCm:List UInt8:=[44]
def sSc:List UInt8:=[59]
def sCo:List UInt8:=[58]
def sEq:List UInt8:=[61]
def sNe:List UInt8:=[33,61]
def sLt:List UInt8:=[60]
def sLe:List UInt8:=[60,61]
def sGt:List UInt8:=[62]
def sGe:List UInt8:=[62,61]
def Ey:List UInt8:=[43]
def EC:List UInt8:=[45]
def EB:List UInt8:=[42]
def EH:List UInt8:=[47]
def reserved:List (List UInt8):=[bC,Ct,xz,wS,cu,xe,dK,bi,kIf,bf,iy,gX,nY,oH,kr,kOr,dL,kTo,bB,aV,bD]
def kinds:List (List UInt8):=[[99,104,97,114,103,101],[114,105,103,104,116],[100,117,116,121],[98,97,110],[114,111,111,109,115],[118,111,116,101],[110,111,116,105,99,101]]
def units:List (List UInt8):=[xe,kr,nY,xz,wS]
inductive Tree where
 | mk (op:Int) (pl:Nat) (name:List UInt8) (n d:Int) (u:Nat) (kids:List Tree)
inductive Out (α:Type) where
 | ok (x:α) (r:List Tok)
 | er (e:Int) (k m:Nat)
def Out.bind {α β:Type}(x:Out α)(f:α->List Tok->Out β):Out β:=match x with
 | .ok a r=>f a r
 | .er e k m=> .er e k m
@[simp] theorem bind_ok {α β:Type}(a:α)(r:List Tok)(f:α->List Tok->Out β):(Out.ok a r).bind f=f a r:=rfl
@[simp] theorem lU {α β:Type}(e:Int)(k m:Nat)(f:α->List Tok->Out β):(Out.er e k m:Out α).bind f = .er e k m:=rfl
def isT (s:List UInt8)(t:Tok):Bool:=decide (t.k≠2)&&t.t==s
def isW (s:List UInt8)(ts:List Tok):Bool:=match ts with|t::_=>isT s t|[]=>false
def isN (ts:List Tok):Bool:=match ts with|t::_=>decide (t.k=2)|[]=>false
def isA (ts:List Tok):Bool:=match ts with|t::_=>decide (t.k=1) && !(reserved.contains t.t) && !(t.t==sSc)|[]=>false
def bad {α:Type}(ts:List Tok):Out α:= .er 10 ts.length ts.length
def need (s:List UInt8)(ts:List Tok):Out Unit:=if isW s ts then .ok () ts.tail else bad ts
def whichI:List (List UInt8)->List Tok->Nat->Option Nat
 | [],_,_=>none
 | s::l,ts,i=>if isW s ts then some i else whichI l ts (i+1)
def which (l:List (List UInt8))(ts:List Tok):Option Nat:=whichI l ts 0
def signs:Nat->List (List UInt8)
 | 0=>[kOr]
 | 1=>[Ct]
 | 3=>[sEq,sNe,sLt,sLe,sGt,sGe]
 | 4=>[Ey,EC]
 | _=>[EB,EH]
def ops:Nat->List Int
 | 0=>[14]
 | 1=>[13]
 | 3=>[9,10,11,12,11,12]
 | 4=>[3,4]
 | _=>[5,6]
inductive Job where
 | ex
 | row (l:Nat)
 | loop (l pl:Nat) (n:Tree)
variable (M:Int->Int->Int×Int×Int)
def factor (ex:List Tok->Out Tree)(ts:List Tok):Out Tree :=
 match ts with
 | []=>bad []
 | t::r =>
  if t.k=2 then
   (match which units r with
   | none=> .ok (.mk 1 (r.length+1) [] t.n t.d 1 []) r
   | some u=>if u=2 then (if (M t.n t.d).2.2=0 then .ok (.mk 1 (r.length+1) [] (M t.n t.d).1 (M t.n t.d).2.1 2 []) r.tail else .er 3 (r.length+1) (r.length-1))
    else .ok (.mk 1 (r.length+1) [] t.n t.d u []) r.tail)
  else if isA (t::r) then .ok (.mk 2 (r.length+1) t.t 0 0 1 []) r
  else if isT bB t then .ok (.mk 17 (r.length+1) [] 0 0 1 []) r
  else if isT sLp t then (ex r).bind fun n r=>(need sRp r).bind fun _ r=> .ok n r
  else match which [gX,iy] (t::r) with
   | none=>bad (t::r)
   | some o=>(need sLp r).bind fun _ r1=>(ex r1).bind fun a r2=>(need sCm r2).bind fun _ r3=>(ex r3).bind fun b r4=>(need sRp r4).bind fun _ r5=> .ok (.mk (7+o) (r.length+1) [] 0 0 1 [a,b]) r5
def step (rec:Job->List Tok->Out Tree):Job->List Tok->Out Tree
 | .ex,ts=>if isW kIf ts then
   (rec .ex ts.tail).bind fun a r1=>(need dL r1).bind fun _ r2=>(rec .ex r2).bind fun b r3=>(need cu r3).bind fun _ r4=>(rec .ex r4).bind fun c r5=> .ok (.mk 16 ts.length [] 0 0 1 [a,b,c]) r5
  else rec (.row 0) ts
 | .row l,ts =>
  if 6<=l then factor M (rec .ex) ts
  else if l=2 then (if isW oH ts then (rec (.row 2) ts.tail).bind fun n r=> .ok (.mk 15 ts.length [] 0 0 1 [n]) r else rec (.row 3) ts)
  else (rec (.row (l+1)) ts).bind fun n r=>rec (.loop l ts.length n) r
 | .loop l pl n,ts=>match which (signs l) ts with
  | none=> .ok n ts
  | some i=>(rec (.row (l+1)) ts.tail).bind fun m r =>
   if l=3 then .ok (.mk ((ops l).getD i 0) pl [] 0 0 1 (if 3<i then [m,n] else [n,m])) r
   else rec (.loop l pl (.mk ((ops l).getD i 0) pl [] 0 0 1 [n,m])) r
def run:Nat->Job->List Tok->Out Tree
 | 0=>fun _ _=> .er 0 0 0
 | f+1=>step M (run f)
end Pa
end
end Go.Proofs.YtnjfolljbfkojaaGreatDoor
