import Derived.Test.YtnjfolljbfkojaaGreatDoorProg
import Derived.Test.YtnjfolljbfkojaaGreatDoorRows
import Derived.Test.YtnjfolljbfkojaaGreatDoorMAB
set_option maxRecDepth 100000
set_option maxHeartbeats 20000000
namespace Go.Proofs.YtnjfolljbfkojaaGreatDoor
open Go.Value renaming int→zI
open Go.IntKind renaming i64→zL
open Go.Lib renaming hid→zH
section
namespace Lx
variable {V:Nat->Int×Int×Int}
theorem rf {p:UInt8->Bool}:∀(w x:List UInt8),((w++x).takeWhile p).length=w.length->w.all p=true/\∀c,x.head? = some c->p c=false
 | [],x,h=>by
  refine⟨rfl,fun c hc=>?_⟩
  cases x with
  | nil=>simp at hc
  | cons d x =>
   simp only[List.head?_cons,Option.some.injEq] at hc
   subst hc
   simp only[List.nil_append,List.takeWhile_cons,List.length_nil] at h
   cases hp:p d with
   | false=>rfl
   | true=>rw[hp] at h;simp at h
 | d::w,x,h=>by
  rw[List.cons_append,List.takeWhile_cons] at h
  cases hp:p d with
  | false=>rw[hp] at h;simp at h
  | true =>
   rw[hp] at h
   simp only[if_true,List.length_cons,Nat.add_right_cancel_iff] at h
   obtain⟨h1,h2⟩:=rf w x h
   exact⟨by rw[List.all_cons,hp,h1];rfl,h2⟩
theorem nV {p:UInt8->Bool}:∀(w y:List UInt8),w.all p=true->(∀c,y.head? = some c->p c=false)->(w++y).takeWhile p=w
 | [],y,_,h=>by
  cases y with
  | nil=>rfl
  | cons d y=>rw[List.nil_append,List.takeWhile_cons,h d rfl];rfl
 | d::w,y,ha,h=>by
  rw[List.all_cons,Bool.and_eq_true] at ha
  rw[List.cons_append,List.takeWhile_cons,ha.1,if_pos rfl,nV w y ha.2 h]
theorem bG {p:UInt8->Bool}(l:List UInt8):(l.takeWhile p).length<=l.length:=(List.takeWhile_prefix p).length_le
theorem dA {p:UInt8->Bool}(l:List UInt8):l.take (l.takeWhile p).length=l.takeWhile p:=(List.prefix_iff_eq_take.1 (List.takeWhile_prefix p)).symm
theorem ja {l:List UInt8}{t:Tok}{n:Nat}(h:nx V l = .ok t n):1<=n/\n<=l.length/\t.a=0:=by
 cases l with
 | nil=>simp[nx] at h
 | cons c l =>
  simp only[nx] at h
  split at h
  ·rename_i hl
   split at h
   ·cases h
   ·injection h with h1 h2
    subst h1 h2
    refine⟨?_,bG _,rfl⟩
    rw[List.takeWhile_cons,(pu c hl).2.2.2];simp
  ·split at h
   ·rename_i hd
    split at h
    ·split at h
     ·injection h with h1 h2
      subst h1 h2
      refine⟨?_,bG _,rfl⟩
      rw[List.takeWhile_cons,(pU c hd).2.2.2.1];simp
     ·cases h
    ·cases h
   ·split at h
    ·cases h
    ·injection h with h1 h2
     subst h1 h2
     exact⟨zac,ui _,rfl⟩
def Nxt (x y:List UInt8):Prop:=y=[]\/(∃c r,y=c::r/\blk c=true)\/y.head? = x.head?
theorem DK {p:UInt8->Bool}{x y:List UInt8}(hp:∀c,blk c=true->p c=false)(h:Nxt x y)(hx:∀c,x.head? = some c->p c=false):∀c,y.head? = some c->p c=false:=by
 intro c hc
 rcases h with rfl|⟨d,r,rfl,hd⟩|h
 ·simp at hc
 ·simp only[List.head?_cons,Option.some.injEq] at hc;subst hc;exact hp _ hd
 ·rw[h] at hc;exact hx c hc
theorem Ao {w x y:List UInt8}{t:Tok}(h:nx V (w++x) = .ok t w.length)(hy:Nxt x y):nx V (w++y) = .ok t w.length:=by
 have hpos:=(ja h).1
 cases w with
 | nil=>simp at hpos
 | cons c w =>
  clear hpos
  rw[List.cons_append] at h |-
  simp only[nx] at h |-
  split at h
  ·rename_i hl
   rw[if_pos hl]
   split at h
   ·cases h
   ·rename_i h16
    injection h with h1 h2
    rw[<-List.cons_append] at h1 h2 h16 |-
    obtain⟨a1,a2⟩:=rf (c::w) x h2
    have e1:=nV (c::w) x a1 a2
    have e2:=nV (c::w) y a1 (DK (fun c hc=>(eY c hc).1) hy a2)
    rw[e1] at h1 h16
    rw[e2,if_neg h16,h1]
  ·rename_i hl
   rw[if_neg hl]
   split at h
   ·rename_i hd
    rw[if_pos hd]
    split at h
    ·rename_i hf
     split at h
     ·rename_i hv
      injection h with h1 h2
      rw[<-List.cons_append] at h1 h2 hf hv |-
      obtain⟨a1,a2⟩:=rf (c::w) x h2
      have e1:=nV (c::w) x a1 a2
      have e2:=nV (c::w) y a1 (DK (fun c hc=>(eY c hc).2.1) hy a2)
      rw[e1] at h1 hf hv
      rw[e2,if_pos hf,if_pos hv,h1]
     ·cases h
    ·cases h
   ·rename_i hd
    rw[if_neg hd]
    split at h
    ·cases h
    ·rename_i h0
     injection h with h1 h2
     have hs:sgn (c::(w++y))=sgn (c::(w++x)):=by
      have hle:=AP (c::(w++x))
      rw[h2,List.length_cons] at hle
      cases w with
      | nil =>
       simp only[List.nil_append,List.length_cons,List.length_nil] at h2 |-
       have hq:sgn (c::x)=1:=zac
       rw[hq]
       simp only[sgn] at hq |-
       by_cases c33:c.toNat=33
       ·rw[if_pos c33] at hq;split at hq<;>omega
       ·rw[if_neg c33] at hq |-
        by_cases c6:c.toNat=60\/c.toNat=62
        ·rw[if_pos c6] at hq |-
         have hx:x.head?≠some 61:=by intro e;rw[if_pos e] at hq;omega
         rw[if_neg]
         intro e
         rcases hy with rfl|⟨d,r,rfl,hd⟩|hy
         ·simp at e
         ·simp only[List.head?_cons,Option.some.injEq] at e
          have:=(eY d hd).2.2.2.2.1
          rw[e] at this;exact this rfl
         ·rw[hy] at e;exact hx e
        ·rw[if_neg c6] at hq |-;exact hq
      | cons d w =>
       have:w=[]:=by cases w with
        | nil=>rfl
        | cons _ _=>simp at hle
       subst this
       simp[sgn]
     rw[hs,if_neg h0,h2]
     congr 1
     rw[h2] at h1
     rw[<-h1]
     congr 1
     rw[<-List.cons_append,<-List.cons_append,List.take_left,List.take_left]
theorem xO {l:List UInt8}{t:Tok}{n:Nat}(h:nx V l = .ok t n):nx V (l.take n++l.drop n) = .ok t (l.take n).length:=by
 rw[List.take_append_drop,List.length_take,Nat.min_eq_left (ja h).2.1];exact h
theorem BG (x z:List UInt8):Nxt x (x++10::z):=by
 cases x with
 | nil=>right;left;exact⟨10,z,rfl,zah⟩
 | cons c x=>right;right;rfl
theorem yF (x:List UInt8)(m:Nat):Nxt x (x.take m):=by
 cases m with
 | zero=>left;rfl
 | succ m=>cases x with
  | nil=>left;rfl
  | cons c x=>right;right;rfl
theorem wu {l y:List UInt8}{t:Tok}{n:Nat}(h:nx V l = .ok t n)(hy:Nxt (l.drop n) y):nx V (l.take n++y) = .ok t n:=by
 have:=Ao (xO h) hy
 rwa [List.length_take,Nat.min_eq_left (ja h).2.1] at this
theorem BS {l:List UInt8}{t:Tok}{n m:Nat}(h:nx V l = .ok t n)(hm:n<=m):nx V (l.take m) = .ok t n:=by
 have e:l.take m=l.take n++(l.drop n).take (m-n):=by
  obtain⟨k,rfl⟩:∃k,m=n+k:=⟨m-n,zac⟩
  rw[List.take_add];congr 2;omega
 rw[e]
 exact wu h (yF _ _)
theorem rW {f i:Nat}{l:List UInt8}{ts:List Tok}(h:lx V f i l = .ok ts) :
  (gp false l=l.length/\ts=[])\/∃f' t n us,f=f'+1/\gp false l<l.length/\nx V (l.drop (gp false l)) = .ok t n/\lx V f' (i+gp false l+n) (l.drop (gp false l+n)) = .ok us/\ts=mov (i+gp false l:Nat) t::us:=by
 have hle:=iP l false
 cases f with
 | zero =>
  simp only[lx] at h
  split at h
  ·rename_i e;injection h with h;exact Or.inl ⟨e,h.symm⟩
  ·cases h
 | succ f =>
  simp only[lx] at h
  split at h
  ·rename_i e;injection h with h;exact Or.inl ⟨e,h.symm⟩
  ·rename_i e
   right
   cases hn:nx V (l.drop (gp false l)) with
   | er e=>rw[hn] at h;cases h
   | ok t n =>
    rw[hn] at h
    simp only[] at h
    cases hr:lx V f (i+gp false l+n) (l.drop (gp false l+n)) with
    | er e a=>rw[hr] at h;cases h
    | ok us =>
     rw[hr] at h
     simp only[Res.app,Res.ok.injEq] at h
     exact⟨f,t,n,us,rfl,zac,rfl,hr,h.symm⟩
theorem jT {f i:Nat}{l:List UInt8}(h:gp false l=l.length):lx V f i l = .ok []:=by
 cases f<;>simp only[lx,if_pos h]
theorem ma {f i n:Nat}{l:List UInt8}{t:Tok}(h:gp false l<l.length)(hn:nx V (l.drop (gp false l)) = .ok t n):lx V (f+1) i l=(lx V f (i+gp false l+n) (l.drop (gp false l+n))).app [mov (i+gp false l:Nat) t]:=by
 simp only[lx,if_neg (show ¬gp false l=l.length from zac),hn]
theorem pJ (a b:List Tok)(R:Res):(R.app b).app a=R.app (a++b):=by cases R<;>simp[Res.app]
theorem mF (R:Res):R.app []=R:=by cases R<;>simp[Res.app]
theorem EZ:∀(f i:Nat) (l:List UInt8) (ts:List Tok) (m:List UInt8),lx V f i l = .ok ts->lx V f i (l++10::m)=(lx V (f-ts.length) (i+l.length+1) m).app ts:=by
 intro f
 induction f with
 | zero =>
  intro i l ts m h
  rcases rW h with ⟨hg,rfl⟩|⟨f',t,n,us,hf,_⟩
  ·have hj:=iN l false hg m
   have hl:(l++10::m).length=l.length+1+m.length:=zai
   rw[show(0:Nat)-([]:List Tok).length=0 by rfl]
   simp only[lx,hj,hl,mF]
   by_cases e:gp false m=m.length
   ·rw[if_pos zac,if_pos e]
   ·rw[if_neg zac,if_neg e];congr 1;omega
  ·omega
 | succ f ih =>
  intro i l ts m h
  rcases rW h with ⟨hg,rfl⟩|⟨f',t,n,us,hf,hg,hn,hr,rfl⟩
  ·have hj:=iN l false hg m
   have hl:(l++10::m).length=l.length+1+m.length:=zai
   have hd:∀k,(l++10::m).drop (l.length+1+k)=m.drop k:=by
    intro k
    rw[show l++10::m=(l++[10])++m by simp,show l.length+1+k=(l++[10]).length+k by simp,List.drop_append]
    simp[List.drop_eq_nil_of_le]
   simp only[lx,hj,hl,mF,List.length_nil,Nat.sub_zero,hd]
   by_cases e:gp false m=m.length
   ·rw[if_pos zac,if_pos e]
   ·rw[if_neg zac,if_neg e]
    cases nx V (m.drop (gp false m)) with
    | er e=>simp only[];congr 1;omega
    | ok t n =>
     simp only[]
     rw[show l.length+1+gp false m+n=l.length+1+(gp false m+n) from zac,hd,show i+(l.length+1+gp false m)+n=i+l.length+1+gp false m+n from zac,show i+(l.length+1+gp false m)=i+l.length+1+gp false m from zac]
  ·obtain rfl:f=f':=by omega
   obtain⟨n1,n2,n3⟩:=ja hn
   rw[List.length_drop] at n2
   have e1:gp false (l++10::m)=gp false l:=by
    have:=gG l [] (10::m) false (by rw[List.append_nil];exact hg)
    rwa [List.append_nil] at this
   have e2:(l++10::m).drop (gp false l)=l.drop (gp false l)++10::m:=List.drop_append_of_le_length zac
   have e3:(l++10::m).drop (gp false l+n)=l.drop (gp false l+n)++10::m:=List.drop_append_of_le_length zac
   have hn':nx V (l.drop (gp false l)++10::m) = .ok t n:=by
    have:=wu hn (BG _ m)
    rwa [<-List.append_assoc,List.take_append_drop] at this
   have:=ma (V:=V) (f:=f) (i:=i) (l:=l++10::m) (t:=t) (n:=n) (by rw[e1,List.length_append];omega) (by rw[e1,e2];exact hn')
   rw[this,e1,e3,ih _ _ _ m hr,pJ,List.length_drop]
   congr 2
   ·simp
   ·omega
theorem Co:∀(f i:Nat) (l:List UInt8) (ts:List Tok),lx V f i l = .ok ts->ts.length<=f/\(∀f',ts.length<=f'->lx V f' i l = .ok ts)/\(∀f',f'<ts.length->∃a,lx V f' i l = .er 2 a):=by
 intro f
 induction f with
 | zero =>
  intro i l ts h
  rcases rW h with ⟨hg,rfl⟩|⟨f',t,n,us,hf,_⟩
  ·exact⟨by simp,fun f' _=>jT hg,fun f' h=>by simp at h⟩
  ·omega
 | succ f ih =>
  intro i l ts h
  rcases rW h with ⟨hg,rfl⟩|⟨f',t,n,us,hf,hg,hn,hr,rfl⟩
  ·exact⟨by simp,fun f' _=>jT hg,fun f' h=>by simp at h⟩
  ·obtain rfl:f=f':=by omega
   obtain⟨a1,a2,a3⟩:=ih _ _ _ hr
   refine⟨zai,fun f' h'=>?_,fun f' h'=>?_⟩
   ·obtain⟨k,rfl⟩:∃k,f'=k+1:=⟨f' - 1,by simp at h';omega⟩
    rw[ma hg hn,a2 k (by simp at h';omega)];rfl
   ·cases f' with
    | zero=>exact⟨_,by simp only[lx];rw[if_neg zac]⟩
    | succ k =>
     obtain⟨a,ha⟩:=a3 k (by simp at h';omega)
     exact⟨a,by rw[ma hg hn,ha];rfl⟩
theorem Bv:∀(f i:Nat) (l:List UInt8) (e:Int) (a:Nat),lx V f i l = .er e a->i<=a/\a<i+l.length/\∃ts,lx V f i (l.take (a-i)) = .ok ts:=by
 intro f
 induction f with
 | zero =>
  intro i l e a h
  have hle:=iP l false
  simp only[lx] at h
  split at h
  ·cases h
  ·exact El
 | succ f ih =>
  intro i l e a h
  have hle:=iP l false
  simp only[lx] at h
  split at h
  ·cases h
  ·rename_i hne
   cases hn:nx V (l.drop (gp false l)) with
   | er e' =>
    rw[hn] at h
    exact El
   | ok t n =>
    rw[hn] at h
    simp only[] at h
    obtain⟨n1,n2,n3⟩:=ja hn
    rw[List.length_drop] at n2
    cases hr:lx V f (i+gp false l+n) (l.drop (gp false l+n)) with
    | ok us=>rw[hr] at h;cases h
    | er e' a' =>
     rw[hr] at h
     simp only[Res.app,Res.er.injEq] at h
     obtain⟨rfl,rfl⟩:=h
     obtain⟨b1,b2,ts,b3⟩:=ih _ _ _ _ hr
     rw[List.length_drop] at b2
     refine⟨zac,zac,mov (i+gp false l:Nat) t::ts,?_⟩
     have e1:gp false (l.take (a' - i))=gp false l:=by
      have hs:=gG (l.take (a' - i)) (l.drop (a' - i)) [] false (by rw[List.take_append_drop,List.length_take];omega)
      rwa [List.append_nil,List.take_append_drop] at hs
     have e2:(l.take (a' - i)).drop (gp false l)=(l.drop (gp false l)).take (a' - i-gp false l):=List.drop_take
     have e3:(l.take (a' - i)).drop (gp false l+n)=(l.drop (gp false l+n)).take (a' - (i+gp false l+n)):=by
      rw[List.drop_take];congr 1;omega
     rw[ma (t:=t) (n:=n) (by rw[e1,List.length_take];omega) (by rw[e1,e2];exact BS hn zac),e1,e3,b3]
     rfl
end Lx
end
end Go.Proofs.YtnjfolljbfkojaaGreatDoor
namespace Go.Proofs.YtnjfolljbfkojaaGreatDoor
open Go.Value renaming int→zI
open Go.IntKind renaming i64→zL
open Go.Lib renaming hid→zH
open Go.RowKit Lx
structure Bw (w:World) where
 w':World
 h:RowKit.Below w.heap.size w w'
instance (w:World):Inhabited (Bw w):=⟨⟨w,Below.refl _ _⟩⟩
theorem mixed:Tryz.prog.follows .mixedOrders=true:=zab
theorem fQ {P:Program}{id:Nat}{Q:Exit->Act->World->Prop}{a:Act}{w:World}{l:List Oper}(hm:P.follows .mixedOrders=true)(hB:Region.lexB .any l.toArray=true)
  (h:wpQuiet P l.toArray (fun w'=>∃p:Bw w,w'=p.w') (fun a'=>∀w',(∃p:Bw w,w'=p.w')->Q .normal a' w') l a):(Code.region id l.toArray true).wp P Q a w :=
 wp_region_quiet (C:=fun w'=>∃p:Bw w,w'=p.w') hm hB ⟨⟨_,(Below.refl _ w).drew⟩,rfl⟩ zbt
theorem wH {w w':World}(h:∃p:Bw w,w'=p.w'):RowKit.Below w.heap.size w w':=by obtain⟨p,rfl⟩:=h;exact p.h
theorem ax {w:World}{a:Addr}{v:Value}(hb:a.block<w.heap.size)(h:w.cell? a=some v):∀p:Bw w,p.w'.cell? a=some v:=fun p=>(p.h.cell hb).trans h
theorem Calls.bw_of {P:Program}{f:FuncId}{args:Array Value}{w:World}{p:Bw w}{v:Value}
  (h:Calls P f args p.w' fun e w'=>e = .returned v/\RowKit.Below p.w'.heap.size p.w' w'):Calls P f args p.w' fun e w''=>e = .returned v/\∃q:Bw w,w''=q.w' :=
 h.mono fun _ w' ⟨he,hb⟩=>⟨he,⟨w',p.h.trans (hb.mono p.h.size)⟩,rfl⟩
theorem aD {a b:Bool}(h:a=b):Ending.returned (.bool a) = .returned (.bool b):=by rw[h]
theorem bg {a b:Int}(h:a=b):Ending.returned (zI zL a) = .returned (zI zL b):=by rw[h]
theorem xg {a b:ByteArray}(h:a=b):Ending.returned (.string a) = .returned (.string b):=by rw[h]
theorem addr_add (b off i:Nat):(⟨b,off,none⟩:Addr).add i=⟨b,off+i,none⟩:=by unfold Addr.add;split<;>simp_all
def bs (l:List UInt8):ByteArray:=⟨l.toArray⟩
theorem Fs (s:ByteArray):s=bs s.data.toList:=by apply ByteArray.ext;simp[bs]
theorem aM (l:List UInt8):(bs l).toList=l:=by rw[Lib.toList_data];simp[bs]
theorem eX (l:List UInt8):(bs l).data.toList=l:=by simp[bs]
theorem aP (l:List UInt8):(bs l).size=l.length:=by simp[bs,ByteArray.size]
theorem jV (l:List UInt8)(i:Nat):(bs l).extract 0 i=bs (l.take i):=by
 apply ByteArray.ext;apply Array.ext';simp[bs]
theorem Bb (l:List UInt8)(i:Nat):(bs l).extract i (bs l).size=bs (l.drop i):=by
 apply ByteArray.ext;apply Array.ext';rw[Lib.extract_to_end];simp[bs]
theorem kW (l m:List UInt8):bs l++bs m=bs (l++m):=by
 apply ByteArray.ext;apply Array.ext';simp[bs]
structure At2 (w:World) (b:Nat) (x y:Value):Prop where
 c0:w.cell? ⟨b,0,none⟩=some x
 c1:w.cell? ⟨b,1,none⟩=some y
 f0:w.frozen? ⟨b,0,none⟩=false
 f1:w.frozen? ⟨b,1,none⟩=false
theorem At2.new (w:World)(x y:Value)(T:Nat):At2 (w.alloc (.cells #[x,y] T)) w.heap.size x y:=⟨by simp,by simp,by simp,by simp⟩
theorem At2.below {w w1:World}{b B:Nat}{x y:Value}(h:At2 w b x y)(hB:RowKit.Below B w w1)(hb:b<B):At2 w1 b x y :=
 ⟨(hB.cell (p:=⟨b,0,none⟩) hb).trans h.c0,(hB.cell (p:=⟨b,1,none⟩) hb).trans h.c1,(hB.frozen (p:=⟨b,0,none⟩) hb).trans h.f0,(hB.frozen (p:=⟨b,1,none⟩) hb).trans h.f1⟩
theorem At2.lt {w:World}{b:Nat}{x y:Value}(h:At2 w b x y):b<w.heap.size:=World.block_lt_of_cell? _ _ h.c0
theorem At2.bel {w w1:World}{b:Nat}{x y:Value}(h:At2 w b x y)(hB:RowKit.Below w.heap.size w w1):At2 w1 b x y:=h.below hB h.lt
structure Kept (b:Nat) (w w':World):Prop where
 os:w'.os=w.os
 tape:w'.tape=w.tape
 output:w'.output=w.output
 size:w.heap.size<=w'.heap.size
 block:∀k,k<w.heap.size->k≠b->w'.heap[k]? = w.heap[k]?
theorem Kept.of {b:Nat}{w w':World}(h:RowKit.Below w.heap.size w w'):Kept b w w':=⟨h.os,h.tape,h.output,h.size,fun k hk _=>h.block k hk⟩
theorem Kept.refl (b:Nat)(w:World):Kept b w w:=Kept.of (Below.refl _ _)
theorem Kept.trans {b:Nat}{w u v:World}(h:Kept b w u)(k:Kept b u v):Kept b w v :=
 ⟨k.os.trans h.os,k.tape.trans h.tape,k.output.trans h.output,Nat.le_trans h.size k.size,fun j hj hn=>(k.block j (Nat.lt_of_lt_of_le hj h.size) hn).trans (h.block j hj hn)⟩
theorem Kept.bel {b:Nat}{w u v:World}(h:Kept b w u)(k:RowKit.Below u.heap.size u v):Kept b w v:=h.trans (Kept.of k)
theorem Kept.setCell {b:Nat}{w u:World}(h:Kept b w u)(o:Nat)(s:Option Nat)(x:Value):Kept b w (u.setCell ⟨b,o,s⟩ x) :=
 h.trans ⟨rfl,rfl,rfl,zbb,fun k _ hn=>Below.heap_setCell _ _ _ _ hn⟩
theorem Kept.below {b B:Nat}{w w':World}(h:Kept b w w')(hb:B<=b)(hB:B<=w.heap.size):RowKit.Below B w w' :=
 ⟨h.os,h.tape,h.output,h.size,fun k hk=>h.block k zac zac⟩
theorem Kept.other {b r:Nat}{w w1:World}(h:Kept b w w1)(hr:w.heap.size<=r)(o:Nat)(v:Value):Kept b w (w1.setCell ⟨r,o,none⟩ v) :=
 ⟨h.os,h.tape,h.output,by simpa[World.setCell] using h.size,fun k hk hn=>(Below.heap_setCell _ _ _ _ (by show k≠r;omega)).trans (h.block k hk hn)⟩
def fI (t:Tok):Value:= .agg #[zI zL t.k,zI zL t.a,.string (bs t.t),zI zL t.n,zI zL t.d]
end Go.Proofs.YtnjfolljbfkojaaGreatDoor
namespace Go.Proofs.YtnjfolljbfkojaaGreatDoor
open Go.Value renaming int→zI
open Go.IntKind renaming i64→zL
open Go.Lib renaming hid→zH
open Go.RowKit
theorem iT {a b:Int}(h:a=b):Ending.returned (.int .u64 a) = .returned (.int .u64 b):=by rw[h]
def mag (n:Int):Nat:=n.natAbs
def gd (a b:Nat):Nat:=Nat.gcd a b
theorem dP {n:Int}(h0 : -9223372036854775808<=n)(h1:n<=9223372036854775807):mag n<18446744073709551616:=by unfold mag;omega
theorem jl (n:Int)(w:World)(h0 : -9223372036854775808<=n)(h1:n<=9223372036854775807) :
  Calls Tryz.prog 128 #[zI zL n] w fun e w'=>e = .returned (.int .u64 (mag n))/\w'=w:=by
 by_cases h:n<0
 ·go_enter Tryz.func128,Tryz.ntmps128
  go_wp2
  go_ret
  exact⟨iT (by rw[IntKind.wrap_u64,IntKind.wrap_u64];unfold mag;omega),rfl⟩
 ·go_enter Tryz.func128,Tryz.ntmps128
  go_wp2
  go_ret
  exact⟨iT (by unfold mag;omega),rfl⟩
theorem fF (a b:Nat)(w:World)(ha:a<18446744073709551616)(hb:b<18446744073709551616) :
  Calls Tryz.prog 129 #[.int .u64 a,.int .u64 b] w fun e w'=>e = .returned (.int .u64 (gd a b))/\∃n,w'=w.drewN n:=by
 go_enter Tryz.func129,Tryz.ntmps129
 go_wp2
 go_step3
 go_wp2
 go_step3
 go_wp2
 go_loopg [0,1] b (fun k x y wr=>∃a' b':Nat,a'<18446744073709551616/\b'<=k/\b'<18446744073709551616/\x = .int .u64 a'/\y = .int .u64 b'/\Nat.gcd a' b'=Nat.gcd a b/\∃n,wr=w.drewN n)
 case atStart=>exact⟨a,b,ha,Nat.le_refl _,hb,rfl,rfl,rfl,0,rfl⟩
 case round =>
  obtain⟨a',b',ha',hk,hb',rfl,rfl,hg,n,rfl⟩:=hrel
  have HG:=zH hg
  clear hg
  by_cases h:b'=0
  ·subst h
   go_wp2
   rw[Exit.noGoto_ret]
   go_ret
   exact⟨iT (by unfold gd;rw[<-HG.out,Nat.gcd_zero_right]),n,rfl⟩
  ·have hz:((b':Int)==0)=false:=by simp;omega
   go_wp2
   go_quiet (fail)
   go_wp2
   rename_i nq _
   go_roundg (b' - 1)
   case measure=>omega
   case rel =>
    have hm:=Nat.mod_lt a' (show 0<b' from zac)
    refine⟨b',a' % b',hb',zac,zac,rfl,?_,?_,?_⟩
    ·rw[Int.natCast_emod]
    ·rw[<-HG.out,Nat.gcd_comm b',<-Nat.gcd_rec,Nat.gcd_comm]
    ·exact⟨n+nq,by rw[World.drewN_drewN]⟩
theorem aa {P:Program}{fn:Func}{R:Ending->World->Prop}{a:Act}{w:World}{c:List PanicEntry}(hd:a.defers=[])(h:R (.panicked c) w):bodyPost P fn R (.panic c) a w:=⟨hd,h⟩
structure Halved (n d:Int) (x y:Nat):Prop where
 n0 : -9223372036854775808<=n
 n1:n<=9223372036854775807
 d0 : -9223372036854775808<=d
 d1:d<=9223372036854775807
 g0:0<gd (mag n) (mag d)
 ex:mag n/gd (mag n) (mag d)=x
 ey:mag d/gd (mag n) (mag d)=y
theorem rO (n d:Int)(x y:Nat)(w:World)(h:Halved n d x y)(hx:x<=1000000000)(hy:y<=1000000000)(hs:n<0↔d<0) :
  Calls Tryz.prog 119 #[.agg #[zI zL n,zI zL d]] w fun e w'=>e = .returned (.agg #[zI zL x,zI zL y])/\Below w.heap.size w w':=by
 obtain⟨n0,n1,d0,d1,g0,ex,ey⟩:=h
 have hX:=dP n0 n1
 have hY:=dP d0 d1
 have hz:((gd (mag n) (mag d):Int)==0)=false:=zai
 have ex':(mag n:Int)/(gd (mag n) (mag d):Int)=(x:Int):=zbv
 have ey':(mag d:Int)/(gd (mag n) (mag d):Int)=(y:Int):=zbw
 clear ex ey
 by_cases hn:n<0
 ·have hd:d<0:=hs.1 hn
  clear hs
  have hnb:decide (n<0)=true:=zai
  have hdb:decide (d<0)=true:=zai
  exact zz70
 ·have hd:¬d<0:=fun c=>hn (hs.2 c)
  clear hs
  have hnb:decide (n<0)=false:=zai
  have hdb:decide (d<0)=false:=zai
  exact zz70
theorem rH (n d:Int)(x y:Nat)(w:World)(h:Halved n d x y)(hx:x<=1000000000)(hy:y<=1000000000)(hs:¬(n<0↔d<0)) :
  Calls Tryz.prog 119 #[.agg #[zI zL n,zI zL d]] w fun e w'=>e = .returned (.agg #[zI zL (-(x:Int)),zI zL y])/\Below w.heap.size w w':=by
 obtain⟨n0,n1,d0,d1,g0,ex,ey⟩:=h
 have hX:=dP n0 n1
 have hY:=dP d0 d1
 have hz:((gd (mag n) (mag d):Int)==0)=false:=zai
 have ex':(mag n:Int)/(gd (mag n) (mag d):Int)=(x:Int):=zbv
 have ey':(mag d:Int)/(gd (mag n) (mag d):Int)=(y:Int):=zbw
 clear ex ey
 by_cases hn:n<0
 ·have hd:¬d<0:=fun c=>hs ⟨fun _=>c,fun _=>hn⟩
  clear hs
  have hnb:decide (n<0)=true:=zai
  have hdb:decide (d<0)=false:=zai
  exact zz68
 ·have hd:d<0:=by omega
  clear hs
  have hnb:decide (n<0)=false:=zai
  have hdb:decide (d<0)=true:=zai
  exact zz68
theorem uC (n d:Int)(x y:Nat)(w:World)(h:Halved n d x y)(hx:1000000000<x\/1000000000<y) :
  Calls Tryz.prog 119 #[.agg #[zI zL n,zI zL d]] w fun e w'=>e = .panicked [{ v:= .iface 37 (zI zL 3),recovered:=false }]/\Below w.heap.size w w':=by
 obtain⟨n0,n1,d0,d1,g0,ex,ey⟩:=h
 have hX:=dP n0 n1
 have hY:=dP d0 d1
 have hz:((gd (mag n) (mag d):Int)==0)=false:=zai
 have ex':(mag n:Int)/(gd (mag n) (mag d):Int)=(x:Int):=zbv
 have ey':(mag d:Int)/(gd (mag n) (mag d):Int)=(y:Int):=zbw
 have hxl:x<18446744073709551616:=zcb
 have hyl:y<18446744073709551616:=zcc
 clear ex ey
 by_cases hx1:1000000000<x
 ·clear hx
  have hxb:decide (1000000000<(x:Int))=true:=zai
  exact zz77
 ·have hy1:1000000000<y:=by omega
  clear hx
  have hxb:decide (1000000000<(x:Int))=false:=zai
  have hyb:decide (1000000000<(y:Int))=true:=zai
  exact zz77
end Go.Proofs.YtnjfolljbfkojaaGreatDoor
