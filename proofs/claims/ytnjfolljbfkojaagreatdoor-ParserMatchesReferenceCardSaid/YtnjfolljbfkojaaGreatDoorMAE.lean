import Derived.Test.YtnjfolljbfkojaaGreatDoorMAC
import Derived.Test.YtnjfolljbfkojaaGreatDoorMAD
set_option maxRecDepth 100000
set_option maxHeartbeats 20000000
namespace Go.Proofs.YtnjfolljbfkojaaGreatDoor
open Go.Value renaming int→zI
open Go.IntKind renaming i64→zL
open Go.Lib renaming hid→zH
open Go.RowKit Lx
def vi (x:Int):Value:= zI zL x
theorem FE:(Tryz.prog.info? 86).map (fun i=>(i.zero,i.size,i.bytes))=some (some (.agg #[zI zL 0,zI zL 0,.string ⟨#[]⟩,zI zL 0,zI zL 0]),5,48):=zab
def flT:List Tok->List Value
 | []=>[]
 | x::l=>vi (x.k)::vi (x.a) :: .string (bs x.t)::vi (x.n)::vi (x.d)::flT l
theorem pK:∀l,(flT l).length=l.length*5
 | []=>rfl
 | x::l=>by simp only[flT,List.length_cons,pK l];omega
theorem vY:∀l m,flT (l++m)=flT l++flT m
 | [],_=>rfl
 | x::l,m=>by rw[List.cons_append,flT,flT,vY];rfl
theorem zG:∀(l:List Tok) (k:Nat) (h:k<l.length),(flT l)[k*5]? = some (vi (l[k].k))/\(flT l)[k*5+1]? = some (vi (l[k].a))/\(flT l)[k*5+2]? = some (.string (bs l[k].t))/\(flT l)[k*5+3]? = some (vi (l[k].n))/\(flT l)[k*5+4]? = some (vi (l[k].d))
 | x::l,0,_=>⟨rfl,rfl,rfl,rfl,rfl⟩
 | x::l,k+1,h=>by
  have:=zG l k zbt
  rw[show(k+1)*5=k*5+1+1+1+1+1 by omega]
  simp only[flT,List.getElem_cons_succ,Nat.add_assoc,Nat.reduceAdd] at this |-
  exact this
theorem vF:∀(l:List Tok) (u:Value),u∈flT l->u.oneCell'=true
 | x::l,u,h=>by
  simp only[flT,List.mem_cons] at h
  rcases h with rfl|rfl|rfl|rfl|rfl|h
  ·rfl
  ·rfl
  ·rfl
  ·rfl
  ·rfl
  ·exact vF l u h
def gL (w:World)(base:Nat)(v:Value)(l:List Tok):Prop:=w.ownsRow base 86 5 v l.length (flT l)
theorem gL.empty (w:World)(base:Nat):gL w base (.slice none 0 0) []:=World.ownsRow_nil _ _ _ _
theorem gL.block {w:World}{base:Nat}{v:Value}{l:List Tok}(h:gL w base v l):∀k,v.ownBlock=some k->base<=k:=by
 intro k hk
 rcases h.2 with ⟨rfl,_⟩|⟨g,cap,cur,rfl,hg,_⟩
 ·cases hk
 ·simp[Value.ownBlock] at hk;omega
theorem gL.alloc {w:World}{base:Nat}{v:Value}{l:List Tok}(h:gL w base v l)(o:Obj):gL (w.alloc o) base v l:=World.ownsRow.alloc h o
theorem gL.kept {w w':World}{base b:Nat}{v:Value}{l:List Tok}(h:gL w base v l)(hB:Kept b w w')(hb':b<base):gL w' base v l:=by
 refine⟨h.1,?_⟩
 rcases h.2 with ⟨h1,h2⟩|⟨g,cap,cur,hv,hg,hb,hr⟩
 ·exact .inl ⟨h1,h2⟩
 ·refine .inr ⟨g,cap,cur,hv,hg,?_,hr⟩
  have hlt:g<w.heap.size:=by
   rcases Nat.lt_or_ge g w.heap.size with z|z
   ·exact z
   ·rw[Array.getElem?_eq_none z] at hb;cases hb
  rw[hB.block g hlt zac];exact hb
theorem gL.below {w w':World}{base:Nat}{v:Value}{l:List Tok}(h:gL w base v l)(hB:RowKit.Below w.heap.size w w'):gL w' base v l:=by
 refine⟨h.1,?_⟩
 rcases h.2 with ⟨h1,h2⟩|⟨g,cap,cur,hv,hg,hb,hr⟩
 ·exact .inl ⟨h1,h2⟩
 ·refine .inr ⟨g,cap,cur,hv,hg,?_,hr⟩
  have hlt:g<w.heap.size:=by
   rcases Nat.lt_or_ge g w.heap.size with z|z
   ·exact z
   ·rw[Array.getElem?_eq_none z] at hb;cases hb
  rw[hB.block g hlt];exact hb
def AtT (w:World)(b off:Nat)(l:List Tok):Prop:=∀(k:Nat) (h:k<l.length),w.cell? ⟨b,off+k*5,none⟩=some (zI zL l[k].k)/\w.cell? ⟨b,off+k*5+1,none⟩=some (zI zL l[k].a) /\
 w.cell? ⟨b,off+k*5+2,none⟩=some (.string (bs l[k].t))/\w.cell? ⟨b,off+k*5+3,none⟩=some (zI zL l[k].n)/\w.cell? ⟨b,off+k*5+4,none⟩=some (zI zL l[k].d)
structure SlT (w:World) (p:Option Addr) (b off len:Nat) (l:List Tok):Prop where
 ln:l.length=len
 ptr:0<len->p=some ⟨b,off,none⟩
 cells:AtT w b off l
 lt:0<len->b<w.heap.size
 max:len<=1000000
theorem SlT.below {w w1:World}{p:Option Addr}{b off len B:Nat}{l:List Tok}(h:SlT w p b off len l)(hB:RowKit.Below B w w1)(hb:0<len->b<B):SlT w1 p b off len l :=
 ⟨h.ln,h.ptr,fun k hk=>by
  have hb:=hb (by have:=h.ln;omega)
  obtain⟨c0,c1,c2,c3,c4⟩:=h.cells k hk
  exact⟨(hB.cell (p:=⟨b,off+k*5,none⟩) hb).trans c0,(hB.cell (p:=⟨b,off+k*5+1,none⟩) hb).trans c1,(hB.cell (p:=⟨b,off+k*5+2,none⟩) hb).trans c2,(hB.cell (p:=⟨b,off+k*5+3,none⟩) hb).trans c3,(hB.cell (p:=⟨b,off+k*5+4,none⟩) hb).trans c4⟩,
  fun x=>Nat.lt_of_lt_of_le (h.lt x) hB.size,h.max⟩
theorem SlT.bel {w w1:World}{p:Option Addr}{b off len:Nat}{l:List Tok}(h:SlT w p b off len l)(hB:RowKit.Below w.heap.size w w1):SlT w1 p b off len l:=h.below hB h.lt
theorem SlT.nil (w:World)(p:Option Addr):SlT w p 0 0 0 []:=⟨rfl,fun h=> zac,fun k h=>by simp at h,fun h=> zac,zac⟩
theorem SlT.of_block {w w1:World}{p:Option Addr}{b off len:Nat}{l:List Tok}(h:SlT w p b off len l)(hb:0<len->w1.heap[b]? = w.heap[b]?)(hs:w.heap.size<=w1.heap.size):SlT w1 p b off len l :=
 ⟨h.ln,h.ptr,fun k hk=>by
  have hb:=hb (by have:=h.ln;omega)
  obtain⟨c0,c1,c2,c3,c4⟩:=h.cells k hk
  exact⟨(World.cell?_of_block (w:=w) (a:=⟨b,off+k*5,none⟩) hb).trans c0,(World.cell?_of_block (w:=w) (a:=⟨b,off+k*5+1,none⟩) hb).trans c1,(World.cell?_of_block (w:=w) (a:=⟨b,off+k*5+2,none⟩) hb).trans c2,(World.cell?_of_block (w:=w) (a:=⟨b,off+k*5+3,none⟩) hb).trans c3,(World.cell?_of_block (w:=w) (a:=⟨b,off+k*5+4,none⟩) hb).trans c4⟩,
  fun x=>Nat.lt_of_lt_of_le (h.lt x) hs,h.max⟩
theorem gL.reads {w:World}{base:Nat}{v:Value}{l:List Tok}(h:gL w base v l)(hm:l.length<=1000000):∃q b cap n,v = .slice q n cap/\SlT w q b 0 n l/\n<=cap/\(0<n->base<=b):=by
 obtain⟨_,h⟩:=h
 rcases h with ⟨rfl,h0⟩|⟨g,cap,cur,rfl,hg,hb,hn,hc,hs,hx⟩
 ·obtain rfl:l=[]:=List.length_eq_zero_iff.1 h0
  exact⟨none,0,0,0,rfl,SlT.nil w _,Nat.le_refl _,fun h=> zac⟩
 ·have hcell:∀j u,(flT l)[j]? = some u->w.cell? ⟨g,j,none⟩=some u:=fun j u hv=>by
   rw[cell_of_row w g j cur _ _ hb]
   have hj:j<l.length*5:=by
    have:=(List.getElem?_eq_some_iff.1 hv).1;rw[pK] at this;exact this
   have e:=congrArg (fun z=>z[j]?) hx
   simp only[List.getElem?_take,hj,if_true] at e
   rw[<-Array.getElem?_toList,e,hv]
  refine⟨_,g,cap,_,rfl,⟨rfl,fun _=>rfl,fun k hk=>?_,fun _=>?_,zac⟩,hn,fun _=>hg⟩
  ·obtain⟨a0,a1,a2,a3,a4⟩:=zG l k hk
   simp only[Nat.zero_add]
   exact⟨hcell _ _ a0,hcell _ _ a1,hcell _ _ a2,hcell _ _ a3,hcell _ _ a4⟩
  ·rcases Nat.lt_or_ge g w.heap.size with z|z
   ·exact z
   ·rw[Array.getElem?_eq_none z] at hb;cases hb
def yA (w:World)(b:Nat)(x:Tok):Prop:=w.cell? ⟨b,0,none⟩=some (zI zL x.k)/\w.cell? ⟨b,1,none⟩=some (zI zL x.a)/\w.cell? ⟨b,2,none⟩=some (.string (bs x.t))/\w.cell? ⟨b,3,none⟩=some (zI zL x.n)/\w.cell? ⟨b,4,none⟩=some (zI zL x.d)
theorem yA.new (w:World)(x:Tok)(C:TypeId):yA (w.alloc (.cells #[zI zL x.k,zI zL x.a,.string (bs x.t),zI zL x.n,zI zL x.d] C)) w.heap.size x:=⟨by simp,by simp,by simp,by simp,by simp⟩
theorem yA.news {w:World}{b:Nat}{x:Tok}(h:yA w b x):∀(j:Nat) (u:Value),(flT [x])[j]? = some u->w.cell? ((⟨b,0,none⟩:Addr).add j)=some u
 | 0,u,hu=>by simp[flT,vi] at hu;rw[addr_add,Nat.zero_add,<-hu];exact h.1
 | 1,u,hu=>by simp[flT,vi] at hu;rw[addr_add,Nat.zero_add,<-hu];exact h.2.1
 | 2,u,hu=>by simp[flT,vi] at hu;rw[addr_add,Nat.zero_add,<-hu];exact h.2.2.1
 | 3,u,hu=>by simp[flT,vi] at hu;rw[addr_add,Nat.zero_add,<-hu];exact h.2.2.2.1
 | 4,u,hu=>by simp[flT,vi] at hu;rw[addr_add,Nat.zero_add,<-hu];exact h.2.2.2.2
 | j+5,u,hu=>by simp[flT] at hu
theorem yJ (w:World)(base:Nat)(ty:TypeId)(v:Value)(l:List Tok)(hown:gL w base v l)(b c:Nat)(x:Tok)(hx:yA w b x)(h1:l.length<=1000000)(hbase:base<=w.heap.size) :
  ∃v' w',(Builtin.append_ #[58,58] ty #[v,.slice (some ⟨b,0,none⟩) 1 c]).run Tryz.prog w = .ok v' w'/\gL w' base v' (l++[x])/\w.grownBy w' v.ownBlock:=by
 obtain⟨i,hi,hz⟩:=Option.map_eq_some_iff.1 FE
 simp only[Prod.mk.injEq] at hz
 obtain⟨v',w',hr,h3,h4,_,_⟩:=run_append_own_at (P:=Tryz.prog) w base 58 ty 86 i (.agg #[zI zL 0,zI zL 0,.string ⟨#[]⟩,zI zL 0,zI zL 0]) 5 48 Tryz.underlying58 hi hz.1 hz.2.1 hz.2.2 rfl zac v l.length (flT l) hown ⟨b,0,none⟩ 1 c (flT [x]) (by rw[pK];rfl)
  hx.news (fun u hu=>vF _ u hu) (by unfold maxLen;omega) zac hbase
 refine⟨v',w',hr,?_,h4⟩
 unfold gL
 rw[List.length_append,vY]
 exact h3
theorem ou {w:World}{ops:Array Oper}{rest:List Oper}{o:Oper}{a:Act}{Q:Exit->Act->World->Prop}(hgd:o.guard=none)(s y:Operand)
  (ho:o.op = .call { callee:= .builtin .append,args:=#[s,y],argTypes:=#[58,58] })
  (base:Nat)(v:Value)(l:List Tok)(hs:a.eval s=v)(hown:gL w base v l)(b c:Nat)(x:Tok)(hy:a.eval y = .slice (some ⟨b,0,none⟩) 1 c)(hx:yA w b x)
  (h1:l.length<=1000000)(hbase:base<=w.heap.size)
  (h:∀v' w',gL w' base v' (l++[x])->w.grownBy w' v.ownBlock->wpList Tryz.prog ops Q rest (a.put o.dst v') w'):wpList Tryz.prog ops Q (o::rest) a w :=
 wpList_plain hgd fun _ hK=>by
  obtain⟨v',w',hr,h3,h4⟩:=yJ w base o.type v l hown b c x hx h1 hbase
  unfold Oper.wp execOp
  simp only[ho,resolve,invoke,builtin,Sem.run_bind,Sem.run_pure,Result.andThen_ok,List.map_toArray,List.map_cons,List.map_nil,hs,hy,hr]
  exact hK _ _ (h v' w' h3 h4)
theorem gL.grown {w w':World}{base:Nat}{v:Value}{l:List Tok}(h:gL w base v l)(hg:w.grownBy w' v.ownBlock)(hb:base<=w.heap.size):RowKit.Below base w w' :=
 (Below.refl base w).grown hg hb h.block
end Go.Proofs.YtnjfolljbfkojaaGreatDoor
namespace Go.Proofs.YtnjfolljbfkojaaGreatDoor
open Go.Value renaming int→zI
open Go.IntKind renaming i64→zL
open Go.Lib renaming hid→zH
section
namespace Pa
open Lx
section
variable {M:Int->Int->Int×Int×Int}
def op2 (o:Int)(x y:Tree):Tree:= .mk o 0 [] 0 0 1 [x,y]
end
end Pa
end
section
namespace Pa
open Lx
variable {V:Nat->Int×Int×Int}
def cl (t:Tok):Tok:={ t with a:=0 }
end Pa
end
section
namespace Pa
open Lx
variable {M:Int->Int->Int×Int×Int} {V:Nat->Int×Int×Int}
end Pa
end
section
namespace Pa
open Lx
variable {M:Int->Int->Int×Int×Int} {V:Nat->Int×Int×Int}
section
variable {a b c:List UInt8} {x y z:Tree}
end
end Pa
end
section
namespace Pa
open Lx
variable {V:Nat->Int×Int×Int}
def dpt (c:UInt8):Bool:=dgt c||decide (c.toNat=46)
theorem BL {x:List UInt8}(h:frm x=true):x.all dpt=true:=by
 unfold frm at h
 rw[Bool.and_eq_true] at h
 have hx:x=whole x++behind x:=(List.takeWhile_append_dropWhile (p:=fun c:UInt8=>decide (c.toNat≠46)) (l:=x)).symm
 have hd:∀(l:List UInt8) (k:Nat),gU l k=true->l.all dpt=true:=by
  intro l k h
  unfold gU oG at h
  simp only[Bool.and_eq_true,List.all_eq_true] at h
  rw[List.all_eq_true]
  intro c hc
  unfold dpt
  rw[h.2 c hc];rfl
 rw[hx,List.all_append,hd _ _ h.1,Bool.true_and]
 rw[Bool.or_eq_true,decide_eq_true_eq] at h
 rcases h.2 with e|e
 ·rw[e];rfl
 ·cases hb:behind x with
  | nil=>rfl
  | cons c r =>
   rw[hb] at e
   have hc:c.toNat=46:=by
    have:∀(l:List UInt8) c r,l.dropWhile (fun c:UInt8=>decide (c.toNat≠46))=c::r->c.toNat=46:=by
     intro l
     induction l with
     | nil=>intro c r h;cases h
     | cons a l ih =>
      intro c r h
      rw[List.dropWhile_cons] at h
      split at h
      ·exact ih c r h
      ·rename_i h2
       injection h with h3 h4
       subst h3
       simpa using h2
    exact this x c r hb
   have hr:=hd _ _ e
   rw[List.tail_cons] at hr
   rw[List.all_cons,hr]
   unfold dpt
   rw[decide_eq_true hc];simp
theorem Bl {c:UInt8}(h:dpt c=true):nmb c=true:=by
 unfold dpt at h
 rw[Bool.or_eq_true,decide_eq_true_eq] at h
 rcases h with h|h
 ·exact(pU c h).2.2.2.1
 ·unfold nmb;rw[decide_eq_true h];simp
structure Pc (V:Nat->Int×Int×Int) (l:List UInt8) (t:Tok) (p:List UInt8):Prop where
 cut:l.drop t.a.toNat=p++l.drop (t.a.toNat+p.length)
 ne:p≠[]
 gp:∀y,gp false (p++y)=0
 nx:∀y,(y=[]\/∃c r,y=c::r/\blk c=true)->nx V (p++y) = .ok (cl t) p.length
 txt:t.k≠2->t.t=p
 num:t.k=2->p.all dpt=true/\∀c,(l.drop (t.a.toNat+p.length)).head? = some c->dpt c=false
def Pcs (V:Nat->Int×Int×Int)(l0:List UInt8):Nat->List Tok->List (List UInt8)->Prop
 | i,[],[]=>i<=l0.length
 | i,t::ts,p::ps=>(i:Int)<=t.a/\Pc V l0 t p/\Pcs V l0 (t.a.toNat+p.length) ts ps
 | _,_,_=>False
theorem qa {l:List UInt8}{t:Tok}{n:Nat}(h:nx V l = .ok t n):(t.k≠2->t.t=l.take n)/\(t.k=2->(l.take n).all dpt=true/\∀c,(l.drop n).head? = some c->dpt c=false):=by
 cases l with
 | nil=>simp[Lx.nx] at h
 | cons c l =>
  simp only[Lx.nx] at h
  split at h
  ·split at h
   ·cases h
   ·injection h with h1 h2
    subst h1 h2
    exact⟨fun _=>(dA _).symm,fun e=>by cases e⟩
  ·split at h
   ·split at h
    ·rename_i hf
     split at h
     ·injection h with h1 h2
      subst h1 h2
      refine⟨fun e=>by simp at e,fun _=>⟨?_,fun x hx=>?_⟩⟩
      ·rw[dA];exact BL hf
      ·have e:(c::l).takeWhile nmb++(c::l).drop ((c::l).takeWhile nmb).length=c::l:=by
        have:=List.take_append_drop ((c::l).takeWhile nmb).length (c::l)
        rwa [dA] at this
       have:=(rf (p:=nmb) ((c::l).takeWhile nmb) ((c::l).drop ((c::l).takeWhile nmb).length) (by rw[e])).2 x hx
       cases hd:dpt x with
       | false=>rfl
       | true=>rw[Bl hd] at this;cases this
     ·cases h
    ·cases h
   ·split at h
    ·cases h
    ·injection h with h1 h2
     subst h1 h2
     exact⟨fun _=>rfl,fun e=>by cases e⟩
theorem BO {p:List UInt8}{y:List UInt8}(hp:p≠[])(h:Lx.gp false (p++y)=0)(z:List UInt8):Lx.gp false (p++z)=0:=by
 cases p with
 | nil=>exact absurd rfl hp
 | cons c r =>
  simp only[List.cons_append,Lx.gp] at h |-
  split
  ·rename_i e;rw[if_pos e] at h;omega
  ·rename_i e
   rw[if_neg e] at h
   split
   ·rename_i e2;rw[if_pos e2] at h;omega
   ·rfl
theorem DN (l0:List UInt8):∀(f i:Nat) (l:List UInt8) (ts:List Tok),l0.drop i=l->i<=l0.length->lx V f i l = .ok ts->∃ps,Pcs V l0 i ts ps:=by
 intro f
 induction f with
 | zero =>
  intro i l ts h0 hi h
  rcases rW h with ⟨-,rfl⟩|⟨f',t,n,us,e,-⟩
  ·exact⟨[],hi⟩
  ·omega
 | succ f ih =>
  intro i l ts h0 hi h
  rcases rW h with ⟨-,rfl⟩|⟨f',t,n,us,e,h1,h2,h3,rfl⟩
  ·exact⟨[],hi⟩
  ·obtain rfl:f'=f:=by omega
   obtain⟨n1,n2,n3⟩:=ja h2
   have hl:l.length=l0.length-i:=by rw[<-h0,List.length_drop]
   rw[List.length_drop] at n2
   generalize hg:Lx.gp false l=g at *
   have hd:l0.drop (i+g)=l.drop g:=by rw[<-h0,List.drop_drop]
   have hd2:l0.drop (i+g+n)=l.drop (g+n):=by rw[<-h0,List.drop_drop,Nat.add_assoc]
   obtain⟨ps,hps⟩:=ih (i+g+n) (l.drop (g+n)) us hd2 zac h3
   have ha:(mov ((i+g:Nat):Int) t).a=((i+g:Nat):Int):=by show t.a+_=_;rw[n3];omega
   have hlen:((l.drop g).take n).length=n:=by rw[List.length_take,List.length_drop];omega
   have hne:(l.drop g).take n≠[]:=fun e=>by have:=congrArg List.length e;rw[hlen] at this;simp at this;omega
   refine⟨(l.drop g).take n::ps,by rw[ha];omega,?_,?_⟩
   ·have hgp:=(fM l false (by rw[hg];exact h1)).1
    rw[hg] at hgp
    have hcl:cl (mov ((i+g:Nat):Int) t)=t:=by
     show({ t with a:=0 }:Tok)=t
     cases t;simp at n3;rw[n3]
    constructor
    ·rw[ha,Int.toNat_natCast,hlen,hd,hd2,<-List.drop_drop,List.take_append_drop]
    ·exact hne
    ·exact fun y=>BO (y:=(l.drop g).drop n) hne (by rw[List.take_append_drop];exact hgp) y
    ·intro y hy
     rw[hcl,hlen]
     exact wu h2 (hy.elim .inl fun h=> .inr (.inl h))
    ·exact(qa h2).1
    ·intro hk
     rw[ha,Int.toNat_natCast,hlen,hd2,<-List.drop_drop]
     exact(qa h2).2 hk
   ·rw[ha,Int.toNat_natCast,hlen]
    exact hps
theorem vv {l:List UInt8}{ts:List Tok}(h:Lx.lex V l = .ok ts):∃ps,Pcs V l 0 ts ps:=by
 unfold Lx.lex at h
 split at h
 ·cases h
 ·exact DN l _ 0 l ts rfl (Nat.zero_le _) h
theorem ES {l0:List UInt8}{t:Tok}{p:List UInt8}(h:Pc V l0 t p):t.a.toNat+p.length<=l0.length:=by
 have h1:=congrArg List.length h.cut
 rw[List.length_append,List.length_drop,List.length_drop] at h1
 have:p.length≠0:=fun e=>h.ne (List.length_eq_zero_iff.1 e)
 omega
theorem zT {l0:List UInt8}:∀(ts:List Tok) (ps:List (List UInt8)) (i:Nat),Pcs V l0 i ts ps->ts.Pairwise (fun t u=>t.a<u.a)/\∀t∈ts,(i:Int)<=t.a/\t.a<l0.length:=by
 intro ts
 induction ts with
 | nil=>intro ps i h;exact⟨List.Pairwise.nil,by simp⟩
 | cons t ts ih =>
  intro ps i h
  cases ps with
  | nil=>cases h
  | cons p ps =>
   obtain⟨h1,h2,h3⟩:=h
   have h4:=ES h2
   have hne:p.length≠0:=fun e=>h2.ne (List.length_eq_zero_iff.1 e)
   obtain⟨i1,i2⟩:=ih ps _ h3
   refine⟨List.pairwise_cons.2 ⟨fun u hu=>?_,i1⟩,fun u hu=>?_⟩
   ·have:=(i2 u hu).1;omega
   ·rw[List.mem_cons] at hu
    rcases hu with rfl|hu
    ·exact⟨h1,zac⟩
    ·have:=i2 u hu;exact⟨zac,this.2⟩
def ag (ts:List Tok)(e:Nat)(k:Nat):Int:=match ts.drop (ts.length-k) with
 | []=>(e:Int)
 | t::_=>t.a
theorem Ag {l:List UInt8}{ts:List Tok}(h:Lx.lex V l = .ok ts){k k':Nat}(hk:k'<k)(h1:k<=ts.length):ag ts l.length k<ag ts l.length k':=by
 obtain⟨ps,hp⟩:=vv h
 obtain⟨a1,a2⟩:=zT ts ps 0 hp
 have e:ts.drop (ts.length-k)=ts[ts.length-k]::ts.drop (ts.length-k+1):=List.drop_eq_getElem_cons zac
 unfold ag
 rw[e]
 show(ts[ts.length-k]).a<_
 by_cases h0:k'=0
 ·subst h0
  rw[Nat.sub_zero,List.drop_length]
  exact(a2 _ (List.getElem_mem _)).2
 ·have e':ts.drop (ts.length-k')=ts[ts.length-k']::ts.drop (ts.length-k'+1):=List.drop_eq_getElem_cons zac
  rw[e']
  exact List.pairwise_iff_getElem.1 a1 _ _ _ _ zac
theorem AC {l:List UInt8}{ts:List Tok}(h:Lx.lex V l = .ok ts)(k:Nat):0<=ag ts l.length k/\ag ts l.length k<=l.length:=by
 obtain⟨ps,hp⟩:=vv h
 obtain⟨-,a2⟩:=zT ts ps 0 hp
 unfold ag
 cases hd:ts.drop (ts.length-k) with
 | nil=>simp
 | cons t r =>
  have:=a2 t (List.drop_subset _ _ (by rw[hd];simp))
  exact⟨by simpa using this.1,zai⟩
end Pa
end
end Go.Proofs.YtnjfolljbfkojaaGreatDoor
namespace Go.Proofs.YtnjfolljbfkojaaGreatDoor
open Go.Value renaming int→zI
open Go.IntKind renaming i64→zL
open Go.Lib renaming hid→zH
open Go.RowKit Lx Pa
structure SlS (w:World) (p:Option Addr) (b off len:Nat) (l:List (List UInt8)):Prop where
 ln:l.length=len
 ptr:0<len->p=some ⟨b,off,none⟩
 cells:∀(k:Nat) (h:k<l.length),w.cell? ⟨b,off+k,none⟩=some (.string (bs l[k]))
 lt:0<len->b<w.heap.size
 max:len<=1000000
theorem SlS.bel {w w1:World}{p:Option Addr}{b off len:Nat}{l:List (List UInt8)}(h:SlS w p b off len l)(hB:RowKit.Below w.heap.size w w1):SlS w1 p b off len l :=
 ⟨h.ln,h.ptr,fun k hk=>(hB.cell (p:=⟨b,off+k,none⟩) (h.lt (by have:=h.ln;omega))).trans (h.cells k hk),fun x=>Nat.lt_of_lt_of_le (h.lt x) hB.size,h.max⟩
structure B5 (w:World) (b:Nat) (x0 x1 x2 x3 x4:Value):Prop where
 c0:w.cell? ⟨b,0,none⟩=some x0
 c1:w.cell? ⟨b,1,none⟩=some x1
 c2:w.cell? ⟨b,2,none⟩=some x2
 c3:w.cell? ⟨b,3,none⟩=some x3
 c4:w.cell? ⟨b,4,none⟩=some x4
 f0:w.frozen? ⟨b,0,none⟩=false
 f1:w.frozen? ⟨b,1,none⟩=false
 f2:w.frozen? ⟨b,2,none⟩=false
 f3:w.frozen? ⟨b,3,none⟩=false
 f4:w.frozen? ⟨b,4,none⟩=false
theorem B5.new (w:World)(x0 x1 x2 x3 x4:Value)(T:Nat):B5 (w.alloc (.cells #[x0,x1,x2,x3,x4] T)) w.heap.size x0 x1 x2 x3 x4:=⟨by simp,by simp,by simp,by simp,by simp,by simp,by simp,by simp,by simp,by simp⟩
theorem B5.of {w w1:World}{b:Nat}{x0 x1 x2 x3 x4:Value}(h:B5 w b x0 x1 x2 x3 x4)(hb:w1.heap[b]? = w.heap[b]?):B5 w1 b x0 x1 x2 x3 x4:=by
 have c:∀o,w1.cell? ⟨b,o,none⟩=w.cell? ⟨b,o,none⟩:=fun o=>World.cell?_of_block (w:=w) (a:=⟨b,o,none⟩) hb
 have f:∀o,w1.frozen? ⟨b,o,none⟩=w.frozen? ⟨b,o,none⟩:=fun o=>World.frozen?_of_block (w:=w) (a:=⟨b,o,none⟩) hb
 exact⟨(c 0).trans h.c0,(c 1).trans h.c1,(c 2).trans h.c2,(c 3).trans h.c3,(c 4).trans h.c4,(f 0).trans h.f0,(f 1).trans h.f1,(f 2).trans h.f2,(f 3).trans h.f3,(f 4).trans h.f4⟩
theorem B5.bel {w w1:World}{b:Nat}{x0 x1 x2 x3 x4:Value}(h:B5 w b x0 x1 x2 x3 x4)(hB:RowKit.Below w.heap.size w w1):B5 w1 b x0 x1 x2 x3 x4:=h.of (hB.block b (World.block_lt_of_cell? _ _ h.c0))
theorem B5.set1 {w:World}{b:Nat}{x0 x1 x2 x3 x4:Value}(h:B5 w b x0 x1 x2 x3 x4)(y:Value):B5 (w.setCell ⟨b,1,none⟩ y) b x0 y x2 x3 x4:=by
 obtain⟨c0,c1,c2,c3,c4,f0,f1,f2,f3,f4⟩:=h
 have NE:∀o,o≠1->(w.setCell ⟨b,1,none⟩ y).cell? ⟨b,o,none⟩=w.cell? ⟨b,o,none⟩:=fun o ho=>World.cell?_setCell_other w _ _ y (by intro e;injection e with _ e2 _;exact ho e2.symm)
 exact⟨(NE 0 zah).trans c0,World.cell?_setCell_same _ _ _ c1,(NE 2 zah).trans c2,(NE 3 zah).trans c3,(NE 4 zah).trans c4,by rw[World.frozen?_setCell];exact f0,by rw[World.frozen?_setCell];exact f1,by rw[World.frozen?_setCell];exact f2,by rw[World.frozen?_setCell];exact f3,by rw[World.frozen?_setCell];exact f4⟩
theorem B5.other {w:World}{b r:Nat}{x0 x1 x2 x3 x4:Value}(h:B5 w b x0 x1 x2 x3 x4)(hr:b≠r)(o:Nat)(s:Option Nat)(y:Value):B5 (w.setCell ⟨r,o,s⟩ y) b x0 x1 x2 x3 x4:=h.of (Below.heap_setCell _ _ _ _ hr)
section
variable {w v u:World} {a r:Nat} {x0 x1 x2 x3 x4 y0 y1 y2 y3 y4:Value}
end
theorem vT {ts:List Tok}{k n:Nat}(h:k<ts.length)(hn:n=ts.length)(e:Nat):ag ts e (n-k)=ts[k].a:=by
 subst hn
 unfold ag
 rw[show ts.length-(ts.length-k)=k from zac,List.drop_eq_getElem_cons h]
theorem qB {ts:List Tok}(e:Nat):ag ts e 0=e:=by
 unfold ag
 rw[Nat.sub_zero,List.drop_length]
def uF (u:Nat):Bool:=u==0
def uM (u:Nat):Int:=if u=2 then 1 else 0
def uA (u:Nat):Int:=if u=3 then 1 else 0
def uD (u:Nat):Int:=if u=4 then 1 else 0
end Go.Proofs.YtnjfolljbfkojaaGreatDoor
