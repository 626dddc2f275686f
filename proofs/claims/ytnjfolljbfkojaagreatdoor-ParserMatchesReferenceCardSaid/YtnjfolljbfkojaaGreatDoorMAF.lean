import Derived.Test.YtnjfolljbfkojaaGreatDoorMAE
set_option maxRecDepth 100000
set_option maxHeartbeats 20000000
namespace Go.Proofs.YtnjfolljbfkojaaGreatDoor
open Go.Value renaming int→zI
open Go.IntKind renaming i64→zL
open Go.Lib renaming hid→zH
open Go.RowKit Lx Pa
structure B10 (w:World) (b:Nat) (x0 x1 x2 x3 x4 x5 x6 x7 x8 x9:Value):Prop where
 c0:w.cell? ⟨b,0,none⟩=some x0
 c1:w.cell? ⟨b,1,none⟩=some x1
 c2:w.cell? ⟨b,2,none⟩=some x2
 c3:w.cell? ⟨b,3,none⟩=some x3
 c4:w.cell? ⟨b,4,none⟩=some x4
 c5:w.cell? ⟨b,5,none⟩=some x5
 c6:w.cell? ⟨b,6,none⟩=some x6
 c7:w.cell? ⟨b,7,none⟩=some x7
 c8:w.cell? ⟨b,8,none⟩=some x8
 c9:w.cell? ⟨b,9,none⟩=some x9
 f0:w.frozen? ⟨b,0,none⟩=false
 f1:w.frozen? ⟨b,1,none⟩=false
 f2:w.frozen? ⟨b,2,none⟩=false
 f3:w.frozen? ⟨b,3,none⟩=false
 f4:w.frozen? ⟨b,4,none⟩=false
 f5:w.frozen? ⟨b,5,none⟩=false
 f6:w.frozen? ⟨b,6,none⟩=false
 f7:w.frozen? ⟨b,7,none⟩=false
 f8:w.frozen? ⟨b,8,none⟩=false
 f9:w.frozen? ⟨b,9,none⟩=false
theorem B10.new (w:World)(x0 x1 x2 x3 x4 x5 x6 x7 x8 x9:Value)(T:Nat):B10 (w.alloc (.cells #[x0,x1,x2,x3,x4,x5,x6,x7,x8,x9] T)) w.heap.size x0 x1 x2 x3 x4 x5 x6 x7 x8 x9:=⟨by simp,by simp,by simp,by simp,by simp,by simp,by simp,by simp,by simp,by simp,by simp,by simp,by simp,by simp,by simp,by simp,by simp,by simp,by simp,by simp⟩
theorem B10.of {w w1:World}{b:Nat}{x0 x1 x2 x3 x4 x5 x6 x7 x8 x9:Value}(h:B10 w b x0 x1 x2 x3 x4 x5 x6 x7 x8 x9)(hb:w1.heap[b]? = w.heap[b]?):B10 w1 b x0 x1 x2 x3 x4 x5 x6 x7 x8 x9:=by
 have c:∀o,w1.cell? ⟨b,o,none⟩=w.cell? ⟨b,o,none⟩:=fun o=>World.cell?_of_block (w:=w) (a:=⟨b,o,none⟩) hb
 have f:∀o,w1.frozen? ⟨b,o,none⟩=w.frozen? ⟨b,o,none⟩:=fun o=>World.frozen?_of_block (w:=w) (a:=⟨b,o,none⟩) hb
 exact⟨(c 0).trans h.c0,(c 1).trans h.c1,(c 2).trans h.c2,(c 3).trans h.c3,(c 4).trans h.c4,(c 5).trans h.c5,(c 6).trans h.c6,(c 7).trans h.c7,(c 8).trans h.c8,(c 9).trans h.c9,(f 0).trans h.f0,(f 1).trans h.f1,(f 2).trans h.f2,(f 3).trans h.f3,(f 4).trans h.f4,(f 5).trans h.f5,(f 6).trans h.f6,(f 7).trans h.f7,(f 8).trans h.f8,(f 9).trans h.f9⟩
theorem B10.bel {w w1:World}{b:Nat}{x0 x1 x2 x3 x4 x5 x6 x7 x8 x9:Value}(h:B10 w b x0 x1 x2 x3 x4 x5 x6 x7 x8 x9)(hB:RowKit.Below w.heap.size w w1):B10 w1 b x0 x1 x2 x3 x4 x5 x6 x7 x8 x9:=h.of (hB.block b (World.block_lt_of_cell? _ _ h.c0))
structure NV where
 o:Int
 a:Int
 s:ByteArray
 n:Int
 d:Int
 f:Bool
 m:Int
 r:Int
 y:Int
 q:Option Addr
 k:Nat
 c:Nat
def NV.cells (x:NV):List Value:=[zI zL x.o,zI zL x.a,.string x.s,zI zL x.n,zI zL x.d,.bool x.f,zI zL x.m,zI zL x.r,zI zL x.y,.slice x.q x.k x.c]
mutual
def NodeA (w:World)(A:Nat->Prop)(ofs:Nat->Int):Tree->NV->Prop
 | .mk op pl nm n d u ks,x=>(x.o=op/\x.a=ofs pl/\x.s=bs nm/\x.n=n/\x.d=d/\x.f=uF u/\x.m=uM u/\x.r=uA u/\x.y=uD u/\x.k=ks.length)/\∃b off,(0<ks.length->x.q=some ⟨b,off,none⟩/\A b/\b<w.heap.size)/\bQ w A ofs b off ks
def bQ (w:World)(A:Nat->Prop)(ofs:Nat->Int)(b:Nat):Nat->List Tree->Prop
 | _,[]=>True
 | off,k::ks=>(∃x:NV,(∀(j:Nat) (v:Value),x.cells[j]? = some v->w.cell? ⟨b,off+j,none⟩=some v)/\NodeA w A ofs k x)/\bQ w A ofs b (off+10) ks
end
@[reducible] def ah (w:World)(lo:Nat)(ofs:Nat->Int)(t:Tree)(x:NV):Prop:=NodeA w (fun b=>lo<=b) ofs t x
@[reducible] def Dl (w:World)(lo:Nat)(ofs:Nat->Int)(b off:Nat)(ks:List Tree):Prop:=bQ w (fun b=>lo<=b) ofs b off ks
structure Kfr (lo:Nat) (w w1:World):Prop where
 size:w.heap.size<=w1.heap.size
 blk:∀j,lo<=j->j<w.heap.size->w1.heap[j]? = w.heap[j]?
theorem Kfr.of {w w1:World}(lo:Nat)(h:RowKit.Below w.heap.size w w1):Kfr lo w w1:=⟨h.size,fun j _ hj=>h.block j hj⟩
theorem Kfr.set {w w1:World}{lo r:Nat}(h:Kfr lo w w1)(hr:r<lo)(o:Nat)(s:Option Nat)(y:Value):Kfr lo w (w1.setCell ⟨r,o,s⟩ y) :=
 ⟨by simpa[World.setCell] using h.size,fun j hj hs=>(Below.heap_setCell _ _ _ _ (by show j≠r;omega)).trans (h.blk j hj hs)⟩
theorem Kfr.drew {w w1:World}{lo:Nat}(h:Kfr lo w w1):Kfr lo w w1.drew:=⟨h.size,h.blk⟩
theorem Kfr.refl (lo:Nat)(w:World):Kfr lo w w:=⟨Nat.le_refl _,fun _ _ _=>rfl⟩
mutual
theorem NodeA.keep {w w1:World}{A A':Nat->Prop}{ofs:Nat->Int}(hs:w.heap.size<=w1.heap.size)(hB:∀j,A j->j<w.heap.size->w1.heap[j]? = w.heap[j]?)(hA:∀j,A j->j<w.heap.size->A' j):∀(t:Tree) (x:NV),NodeA w A ofs t x->NodeA w1 A' ofs t x
 | .mk op pl nm n d u ks,x,h=>by
  simp only[NodeA] at h |-
  obtain⟨h1,b,off,h2,h3⟩:=h
  by_cases hk:0<ks.length
  ·exact⟨h1,b,off,fun h=>⟨(h2 h).1,hA _ (h2 h).2.1 (h2 h).2.2,Nat.lt_of_lt_of_le (h2 h).2.2 hs⟩,bQ.keep hs hB hA b (h2 hk).2.1 (h2 hk).2.2 off ks h3⟩
  ·have:ks=[]:=List.length_eq_zero_iff.1 zac
   subst this
   exact⟨h1,b,off,fun h=>absurd h hk,by simp only[bQ]⟩
theorem bQ.keep {w w1:World}{A A':Nat->Prop}{ofs:Nat->Int}(hs:w.heap.size<=w1.heap.size)(hB:∀j,A j->j<w.heap.size->w1.heap[j]? = w.heap[j]?)(hA:∀j,A j->j<w.heap.size->A' j)(b:Nat)(hb0:A b)(hb:b<w.heap.size):∀(off:Nat) (ks:List Tree),bQ w A ofs b off ks->bQ w1 A' ofs b off ks
 | _,[],_=>by simp only[bQ]
 | off,k::ks,h=>by
  simp only[bQ] at h |-
  obtain⟨⟨x,h1,h2⟩,h3⟩:=h
  exact⟨⟨x,fun j v hv=>(World.cell?_of_block (w:=w) (a:=⟨b,off+j,none⟩) (hB b hb0 hb)).trans (h1 j v hv),NodeA.keep hs hB hA k x h2⟩,bQ.keep hs hB hA b hb0 hb (off+10) ks h3⟩
end
theorem ah.keep {w w1:World}{lo lo':Nat}{ofs:Nat->Int}(hB:Kfr lo w w1)(hl:lo'<=lo)(t:Tree)(x:NV)(h:ah w lo ofs t x):ah w1 lo' ofs t x:=NodeA.keep hB.size hB.blk (fun _ h _=>Nat.le_trans hl h) t x h
theorem NodeA.bel {w w1:World}{A:Nat->Prop}{ofs:Nat->Int}(hB:RowKit.Below w.heap.size w w1)(t:Tree)(x:NV)(h:NodeA w A ofs t x):NodeA w1 A ofs t x:=NodeA.keep hB.size (fun j _ hj=>hB.block j hj) (fun _ h _=>h) t x h
theorem ah.bel {w w1:World}{lo:Nat}{ofs:Nat->Int}(hB:RowKit.Below w.heap.size w w1)(t:Tree)(x:NV)(h:ah w lo ofs t x):ah w1 lo ofs t x:=ah.keep (Kfr.of lo hB) (Nat.le_refl _) t x h
theorem xU {w:World}{lo:Nat}{ofs:Nat->Int}(T:Nat):∀(ks:List Tree) (xs:List NV) (pre:List Value),ks.length=xs.length->(∀(i:Nat) (h:i<ks.length) (h':i<xs.length),ah w lo ofs ks[i] xs[i]) ->
  Dl (w.alloc (.cells (pre++xs.flatMap NV.cells).toArray T)) lo ofs w.heap.size pre.length ks:=by
 intro ks
 induction ks with
 | nil=>intro xs pre _ _;simp only[Dl,bQ]
 | cons k ks ih =>
  intro xs pre hl hn
  cases xs with
  | nil=>cases hl
  | cons x xs =>
   simp only[bQ]
   refine⟨⟨x,fun j v hv=>?_,?_⟩,?_⟩
   ·rw[cell_of_row _ _ _ _ _ _ (heap_alloc_new w _),List.getElem?_toArray,List.getElem?_append_right zac,Nat.add_sub_cancel_left,List.flatMap_cons,List.getElem?_append_left (List.getElem?_eq_some_iff.1 hv).1]
    exact hv
   ·exact ah.bel ((Below.refl w.heap.size w).alloc (Nat.le_refl _) _) _ _ (hn 0 (by simp) (by simp))
   ·have:=ih xs (pre++x.cells) (by simpa using hl) (fun i h h'=>by have:=hn (i+1) zbt (by simpa using h');simpa using this)
    rw[List.length_append,show x.cells.length=10 from rfl,List.append_assoc] at this
    rw[List.flatMap_cons]
    exact this
theorem B10.other {w:World}{b r:Nat}{x0 x1 x2 x3 x4 x5 x6 x7 x8 x9:Value}(h:B10 w b x0 x1 x2 x3 x4 x5 x6 x7 x8 x9)(hr:b≠r)(o:Nat)(s:Option Nat)(y:Value):B10 (w.setCell ⟨r,o,s⟩ y) b x0 x1 x2 x3 x4 x5 x6 x7 x8 x9:=h.of (Below.heap_setCell _ _ _ _ hr)
theorem bP (w:World)(lo:Nat)(ofs:Nat->Int)(op:Int)(pl:Nat)(nm:List UInt8)(n d:Int)(u:Nat):ah w lo ofs (.mk op pl nm n d u []) ⟨op,ofs pl,bs nm,n,d,uF u,uM u,uA u,uD u,none,0,0⟩:=by
 show NodeA _ _ _ _ _
 unfold NodeA
 exact Eb
theorem kJ {v w':World}{lo:Nat}{ofs:Nat->Int}{T:Nat}(ks:List Tree)(xs:List NV)(op:Int)(pl:Nat)(c:Nat)(hl:ks.length=xs.length)(hlo:lo<=v.heap.size)(h:∀(i:Nat) (h:i<ks.length) (h':i<xs.length),ah v lo ofs ks[i] xs[i])
  (hk:Kfr lo (v.alloc (.cells (xs.flatMap NV.cells).toArray T)) w'):ah w' lo ofs (.mk op pl [] 0 0 1 ks) ⟨op,ofs pl,⟨#[]⟩,0,0,false,0,0,0,some ⟨v.heap.size,0,none⟩,ks.length,c⟩:=by
 have h1:=xU T ks xs [] hl h
 rw[List.nil_append] at h1
 have h2:ah (v.alloc (.cells (xs.flatMap NV.cells).toArray T)) lo ofs (.mk op pl [] 0 0 1 ks) ⟨op,ofs pl,⟨#[]⟩,0,0,false,0,0,0,some ⟨v.heap.size,0,none⟩,ks.length,c⟩:=by
  show NodeA _ _ _ _ _
  unfold NodeA
  exact⟨⟨rfl,rfl,rfl,rfl,rfl,rfl,rfl,rfl,rfl,rfl⟩,v.heap.size,0,fun _=>⟨rfl,hlo,by simp⟩,h1⟩
 exact ah.keep hk (Nat.le_refl _) _ _ h2
theorem Ca {w:World}{A:Nat->Prop}{ofs:Nat->Int}{b T:Nat}:∀(ks:List Tree) (xs:List NV) (pre:List Value),ks.length=xs.length->(∀(i:Nat) (h:i<ks.length) (h':i<xs.length),NodeA w A ofs ks[i] xs[i]) ->
  w.heap[b]? = some (.cells (pre++xs.flatMap NV.cells).toArray T)->bQ w A ofs b pre.length ks:=by
 intro ks
 induction ks with
 | nil=>intro xs pre _ _ _;simp only[bQ]
 | cons k ks ih =>
  intro xs pre hl hn hb
  cases xs with
  | nil=>cases hl
  | cons x xs =>
   simp only[bQ]
   refine⟨⟨x,fun j v hv=>?_,hn 0 (by simp) (by simp)⟩,?_⟩
   ·rw[cell_of_row _ _ _ _ _ _ hb,List.getElem?_toArray,List.getElem?_append_right zac,Nat.add_sub_cancel_left,List.flatMap_cons,List.getElem?_append_left (List.getElem?_eq_some_iff.1 hv).1]
    exact hv
   ·have:=ih xs (pre++x.cells) (by simpa using hl) (fun i h h'=>by have:=hn (i+1) zbt (by simpa using h');simpa using this) (by rw[hb,List.flatMap_cons,List.append_assoc])
    rw[List.length_append,show x.cells.length=10 from rfl] at this
    exact this
theorem dX {w:World}{A:Nat->Prop}{b T:Nat}{ofs:Nat->Int}(ks:List Tree)(xs:List NV)(op:Int)(pl:Nat)(c:Nat)(hl:ks.length=xs.length)(hlo:A b)(h:∀(i:Nat) (h:i<ks.length) (h':i<xs.length),NodeA w A ofs ks[i] xs[i])
  (hb:w.heap[b]? = some (.cells (xs.flatMap NV.cells).toArray T)):NodeA w A ofs (.mk op pl [] 0 0 1 ks) ⟨op,ofs pl,⟨#[]⟩,0,0,false,0,0,0,some ⟨b,0,none⟩,ks.length,c⟩:=by
 have h1:=Ca (T:=T) ks xs [] hl h (by rw[List.nil_append];exact hb)
 unfold NodeA
 refine⟨⟨rfl,rfl,rfl,rfl,rfl,rfl,rfl,rfl,rfl,rfl⟩,b,0,fun _=>⟨rfl,hlo,?_⟩,h1⟩
 rcases Nat.lt_or_ge b w.heap.size with z|z
 ·exact z
 ·rw[Array.getElem?_eq_none z] at hb;cases hb
theorem vw {w:World}(o:Obj){b:Nat}{x:Obj}(h:w.heap[b]? = some x):(w.alloc o).heap[b]? = some x:=by
 have hb:b<w.heap.size:=by
  rcases Nat.lt_or_ge b w.heap.size with z|z
  ·exact z
  ·rw[Array.getElem?_eq_none z] at h;cases h
 exact(((Below.refl w.heap.size w).alloc (Nat.le_refl _) o).block b hb).trans h
def mU:List Value:=[zI zL 0,zI zL 0,.string ⟨#[]⟩,zI zL 0,zI zL 0,.bool false,zI zL 0,zI zL 0,zI zL 0,.slice none 0 0]
def nv (x:NV):Value:= .agg #[zI zL x.o,zI zL x.a,.string x.s,zI zL x.n,zI zL x.d,.bool x.f,zI zL x.m,zI zL x.r,zI zL x.y,.slice x.q x.k x.c]
theorem B10.put {w:World}{b:Nat}{x0 x1 x2 x3 x4 x5 x6 x7 x8 x9:Value}(h:B10 w b x0 x1 x2 x3 x4 x5 x6 x7 x8 x9)(y0 y1 y2 y3 y4 y5 y6 y7 y8 y9:Value) :
  B10 ((((((((((w.setCell ⟨b,0,none⟩ y0).setCell ⟨b,1,none⟩ y1).setCell ⟨b,2,none⟩ y2).setCell ⟨b,3,none⟩ y3).setCell ⟨b,4,none⟩ y4).setCell ⟨b,5,none⟩ y5).setCell ⟨b,6,none⟩ y6).setCell ⟨b,7,none⟩ y7).setCell ⟨b,8,none⟩ y8).setCell ⟨b,9,none⟩ y9) b y0 y1 y2 y3 y4 y5 y6 y7 y8 y9:=by
 obtain⟨c0,c1,c2,c3,c4,c5,c6,c7,c8,c9,f0,f1,f2,f3,f4,f5,f6,f7,f8,f9⟩:=h
 exact Ex
def gK (e:Int)(a:Int):List PanicEntry:=[{ v:= .iface 75 (.agg #[zI zL a,zI zL e]),recovered:=false }]
def cO:List (List UInt8×Int×Int×Bool):=[(kOr,1,14,false),(Ct,2,13,false),(sEq,3,9,false),(sNe,3,10,false),(sLt,3,11,false),(sLe,3,12,false),(sGt,3,11,true),(sGe,3,12,true),(Ey,4,3,false),(EC,4,4,false),(EB,5,5,false),(EH,5,6,false),(gX,6,7,false),(iy,6,8,false)]
def opV (l o:Int)(x:Bool):Value:= .agg #[zI zL l,zI zL o,.bool x]
def oF:List (List UInt8×Int×Int×Bool)->Nat->List MapEntry
 | [],_=>[]
 | (s,l,o,x)::t,i=>⟨.string (bs s),opV l o x,i⟩::oF t (i+1)
def kP:Obj:= .map (oF cO 0).toArray 14
def eQ (ts:List Tok):Prop:=∀t∈ts,(t.k=1\/t.k=2\/t.k=3)/\(t.k=2->t.t=[])/\(t.k=1->t.t≠sSc/\t.t≠sLp)/\-9223372036854775808<=t.n/\t.n<=9223372036854775807/\-9223372036854775808<=t.d/\t.d<=9223372036854775807
structure Rd (w:World) (b:Nat) (p:Option Addr) (cap qb:Nat) (ts:List Tok) (En mb k:Nat):Prop where
 c0:w.cell? ⟨b,0,none⟩=some (.slice p ts.length cap)
 c1:w.cell? ⟨b,1,none⟩=some (zI zL k)
 c2:w.cell? ⟨b,2,none⟩=some (zI zL En)
 c3:w.cell? ⟨b,3,none⟩=some (.map (some mb))
 f1:w.frozen? ⟨b,1,none⟩=false
 tk:SlT w p qb 0 ts.length ts
 tb:0<ts.length->qb≠b
 mp:w.heap[mb]? = some kP
 mn:mb≠b
 kl:k<=ts.length
 ok:eQ ts
section
variable {w w1 u v w0:World} {b cap qb En mb k k':Nat} {p:Option Addr} {ts:List Tok}
theorem Rd.lt (h:Rd w b p cap qb ts En mb k):b<w.heap.size:=World.block_lt_of_cell? _ _ h.c0
theorem Rd.ml (h:Rd w b p cap qb ts En mb k):mb<w.heap.size:=by
 have:=h.mp
 rcases Nat.lt_or_ge mb w.heap.size with z|z
 ·exact z
 ·rw[Array.getElem?_eq_none z] at this;cases this
theorem Rd.of (h:Rd w b p cap qb ts En mb k)(hs:w.heap.size<=w1.heap.size)(hb:∀j,j<w.heap.size->(j=b\/j=mb\/(0<ts.length/\j=qb))->w1.heap[j]? = w.heap[j]?):Rd w1 b p cap qb ts En mb k:=by
 have c:∀o,w1.cell? ⟨b,o,none⟩=w.cell? ⟨b,o,none⟩:=fun o=>World.cell?_of_block (w:=w) (a:=⟨b,o,none⟩) (hb b h.lt (.inl rfl))
 have f:∀o,w1.frozen? ⟨b,o,none⟩=w.frozen? ⟨b,o,none⟩:=fun o=>World.frozen?_of_block (w:=w) (a:=⟨b,o,none⟩) (hb b h.lt (.inl rfl))
 exact⟨(c 0).trans h.c0,(c 1).trans h.c1,(c 2).trans h.c2,(c 3).trans h.c3,(f 1).trans h.f1,h.tk.of_block (fun z=>hb qb (h.tk.lt z) (.inr (.inr ⟨z,rfl⟩))) hs,h.tb,(hb mb h.ml (.inr (.inl rfl))).trans h.mp,h.mn,h.kl,h.ok⟩
theorem Rd.bel (h:Rd w b p cap qb ts En mb k)(hB:RowKit.Below w.heap.size w w1):Rd w1 b p cap qb ts En mb k:=h.of hB.size fun j hj _=>hB.block j hj
theorem Rd.other (h:Rd w b p cap qb ts En mb k)(r o:Nat)(s:Option Nat)(x:Value)(hr:r≠b/\r≠mb/\(0<ts.length->r≠qb)):Rd (w.setCell ⟨r,o,s⟩ x) b p cap qb ts En mb k:=by
 refine h.of zbb fun j hj hk=>Below.heap_setCell _ _ _ _ ?_
 rintro rfl
 rcases hk with rfl|rfl|⟨z,rfl⟩
 ·exact hr.1 rfl
 ·exact hr.2.1 rfl
 ·exact hr.2.2 z rfl
theorem Rd.next (h:Rd w b p cap qb ts En mb k)(hk:k'<=ts.length):Rd (w.setCell ⟨b,1,none⟩ (zI zL k')) b p cap qb ts En mb k':=by
 have NE:∀o,o≠1->(w.setCell ⟨b,1,none⟩ (zI zL k')).cell? ⟨b,o,none⟩=w.cell? ⟨b,o,none⟩:=fun o ho=>World.cell?_setCell_other w _ _ _ (by intro e;injection e with _ e2 _;exact ho e2.symm)
 refine⟨(NE 0 zah).trans h.c0,World.cell?_setCell_same _ _ _ h.c1,(NE 2 zah).trans h.c2,(NE 3 zah).trans h.c3,by rw[World.frozen?_setCell];exact h.f1,h.tk.of_block (fun z=>Below.heap_setCell _ _ _ _ (h.tb z)) zbb,h.tb,?_,h.mn,hk,h.ok⟩
 rw[Below.heap_setCell _ _ _ _ h.mn];exact h.mp
structure Sx (w0 w:World) (b:Nat) (p:Option Addr) (cap qb:Nat) (ts:List Tok) (En mb k:Nat):Prop where
 kp:Kept b w0 w
 rd:Rd w b p cap qb ts En mb k
 bl:b<w0.heap.size
 ml:mb<w0.heap.size
 ql:0<ts.length->qb<w0.heap.size
theorem Sx.start (h:Rd w b p cap qb ts En mb k):Sx w w b p cap qb ts En mb k:=⟨Kept.refl _ _,h,h.lt,h.ml,h.tk.lt⟩
theorem Sx.bel (h:Sx w0 w b p cap qb ts En mb k)(hB:RowKit.Below w.heap.size w w1):Sx w0 w1 b p cap qb ts En mb k:=⟨h.kp.bel hB,h.rd.bel hB,h.bl,h.ml,h.ql⟩
theorem Sx.call (h:Sx w0 w b p cap qb ts En mb k)(hk:Kept b w w1)(hr:Rd w1 b p cap qb ts En mb k'):Sx w0 w1 b p cap qb ts En mb k':=⟨h.kp.trans hk,hr,h.bl,h.ml,h.ql⟩
theorem Sx.next (h:Sx w0 w b p cap qb ts En mb k)(hk:k'<=ts.length):Sx w0 (w.setCell ⟨b,1,none⟩ (zI zL k')) b p cap qb ts En mb k':=⟨h.kp.setCell 1 none _,h.rd.next hk,h.bl,h.ml,h.ql⟩
theorem Sx.other (h:Sx w0 w b p cap qb ts En mb k){r:Nat}(hr:w0.heap.size<=r)(o:Nat)(x:Value):Sx w0 (w.setCell ⟨r,o,none⟩ x) b p cap qb ts En mb k :=
 ⟨h.kp.other hr o x,h.rd.other r o none x ⟨by have:=h.bl;omega,by have:=h.ml;omega,fun z=>by have:=h.ql z;omega⟩,h.bl,h.ml,h.ql⟩
theorem Sx.alloc (h:Sx w0 w b p cap qb ts En mb k)(o:Obj):Sx w0 (w.alloc o) b p cap qb ts En mb k:=h.bel ((Below.refl _ _).alloc (Nat.le_refl _) _)
theorem Sx.drew (h:Sx w0 w b p cap qb ts En mb k):Sx w0 w.drew b p cap qb ts En mb k:=h.bel (Below.refl _ _).drew
theorem B10.call {x0 x1 x2 x3 x4 x5 x6 x7 x8 x9:Value}{r:Nat}(h:B10 w r x0 x1 x2 x3 x4 x5 x6 x7 x8 x9)(hk:Kept b w w1)(hr:r≠b):B10 w1 r x0 x1 x2 x3 x4 x5 x6 x7 x8 x9:=h.of (hk.block r (World.block_lt_of_cell? _ _ h.c0) hr)
theorem B5.call {x0 x1 x2 x3 x4:Value}{r:Nat}(h:B5 w r x0 x1 x2 x3 x4)(hk:Kept b w w1)(hr:r≠b):B5 w1 r x0 x1 x2 x3 x4:=h.of (hk.block r (World.block_lt_of_cell? _ _ h.c0) hr)
theorem Kfr.kept {lo:Nat}(h:Kept b w w1)(hb:b<lo):Kfr lo w w1:=⟨h.size,fun j h1 h2=>h.block j h2 zac⟩
end
def pk (ts:List Tok)(En k:Nat):Tok:=(ts[k]?).getD ⟨0,En,[],0,0⟩
theorem jO {ts:List Tok}{En k:Nat}(h:k<ts.length):pk ts En k=ts[k]:=by unfold pk;rw[List.getElem?_eq_getElem h];rfl
theorem iI {ts:List Tok}{En k:Nat}(h:ts.length<=k):pk ts En k=⟨0,En,[],0,0⟩:=by unfold pk;rw[List.getElem?_eq_none h];rfl
theorem bF {ts:List Tok}{En k:Nat}(h:k<=ts.length):(pk ts En k).a=ag ts En (ts.length-k):=by
 rcases Nat.lt_or_ge k ts.length with z|z
 ·rw[jO z,vT z rfl]
 ·rw[iI z,show ts.length-k=0 from zac,qB]
theorem gQ {ts:List Tok}{En k:Nat}(h:k<ts.length):ts.drop k=pk ts En k::ts.drop (k+1):=by rw[jO h];exact List.drop_eq_getElem_cons h
theorem qF {ts:List Tok}{En k:Nat}(hk:eQ ts){s:List UInt8}(hs:s≠[]):isW s (ts.drop k)=((pk ts En k).t==s):=by
 rcases Nat.lt_or_ge k ts.length with z|z
 ·rw[gQ (En:=En) z]
  show isT s _=_
  unfold isT
  by_cases h2:(pk ts En k).k=2
  ·have:=(hk _ (List.getElem_mem z)).2.1 (by rw[<-jO (En:=En) z];exact h2)
   rw[<-jO (En:=En) z] at this
   rw[this,decide_eq_false (by simp[h2]),Bool.false_and]
   cases s with
   | nil=>exact absurd rfl hs
   | cons a l=>rfl
  ·rw[decide_eq_true h2,Bool.true_and]
 ·rw[iI z,List.drop_eq_nil_of_le z]
  cases s with
  | nil=>exact absurd rfl hs
  | cons a l=>rfl
theorem zF {ts:List Tok}{En k:Nat}(hk:eQ ts):isA (ts.drop k)=(decide ((pk ts En k).k=1) && !(reserved.contains (pk ts En k).t)):=by
 rcases Nat.lt_or_ge k ts.length with z|z
 ·rw[gQ (En:=En) z]
  unfold isA
  by_cases h1:(pk ts En k).k=1
  ·have:=((hk _ (List.getElem_mem z)).2.2.1 (by rw[<-jO (En:=En) z];exact h1)).1
   rw[<-jO (En:=En) z] at this
   have e:((pk ts En k).t==sSc)=false:=by simpa using this
   simp only[e,Bool.not_false,Bool.and_true]
  ·simp only[decide_eq_false h1,Bool.false_and]
 ·rw[iI z,List.drop_eq_nil_of_le z]
  rfl
end Go.Proofs.YtnjfolljbfkojaaGreatDoor
