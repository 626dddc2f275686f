import Derived.Test.YtnjfolljbfkojaaGreatDoorMBO
import Derived.Test.YtnjfolljbfkojaaGreatDoorMBL
set_option maxRecDepth 100000
set_option maxHeartbeats 20000000
namespace Go.Proofs.YtnjfolljbfkojaaGreatDoor
open Go.Value renaming int→zI
open Go.IntKind renaming i64→zL
open Go.Lib renaming hid→zH
open Go.RowKit Lx Pa
structure RSt (w0 W:World) (res sb gx:Nat) (p:Option Addr) (b off n cap:Nat) (ts:List Tok) (En k:Nat) (E O:Int) (vd vr vg:Value) (ns:List (NV×NV)) (c:By):Prop where
 A:B5 W sb (.slice p n cap) (zI zL k) (zI zL En) (zI zL E) (zI zL O)
 cx:Cx W (sb+2) (sb+1) gx (ag ts En) c.ds c.rs vd vr ns
 rg:W.ownsRow (sb+2) 53 2 vg c.es.length (c.es.flatMap (gV (ag ts En)))
 gb:∀j,vg.ownBlock=some j->j=gx
 gl:gx<W.heap.size
 gd:vd.ownBlock≠some gx
 gr:vr.ownBlock≠some gx
 rs:At2 W res aB aB
 bel:RowKit.Below w0.heap.size w0 W
 tk:SlT W p b off n ts
 tb:0<n->b<sb
 dl:c.ds.length<=12
 rl:c.rs.length<=100
 el:c.es.length<=20
 n1:res=w0.heap.size
 n2:res<sb
 kn:k<=n
section
variable {w0 W V W1:World} {res sb gx:Nat} {p:Option Addr} {b off n cap:Nat} {ts:List Tok} {En k:Nat} {E O:Int} {vd vr vg:Value} {ns:List (NV×NV)} {c:By}
theorem RSt.bs (h:RSt w0 W res sb gx p b off n cap ts En k E O vd vr vg ns c):sb+2<=W.heap.size:=by
 have:=h.cx.at2.lt
 omega
theorem RSt.w0s (h:RSt w0 W res sb gx p b off n cap ts En k E O vd vr vg ns c):w0.heap.size<=sb:=by
 have:=h.n1
 have:=h.n2
 omega
theorem RSt.bl (h:RSt w0 W res sb gx p b off n cap ts En k E O vd vr vg ns c)(hB:RowKit.Below W.heap.size W V):RSt w0 V res sb gx p b off n cap ts En k E O vd vr vg ns c :=
 ⟨h.A.bel hB,h.cx.keep hB.size (fun j hj _=>hB.block j hj),aR h.rg (fun j _ hj2=>hB.block j hj2),h.gb,Nat.lt_of_lt_of_le h.gl hB.size,h.gd,h.gr,h.rs.heap (hB.block res h.rs.lt),h.bel.trans (hB.mono h.bel.size),h.tk.bel hB,h.tb,h.dl,h.rl,h.el,h.n1,h.n2,h.kn⟩
theorem RSt.st (h:RSt w0 W res sb gx p b off n cap ts En k E O vd vr vg ns c)(k':Nat)(E' O':Int)(hk:k'<=n):RSt w0 (((((W.setCell ⟨sb,0,none⟩ (.slice p n cap)).setCell ⟨sb,1,none⟩ (zI zL k')).setCell ⟨sb,2,none⟩ (zI zL En)).setCell ⟨sb,3,none⟩ (zI zL E')).setCell ⟨sb,4,none⟩ (zI zL O')) res sb gx p b off n cap ts En k' E' O' vd vr vg ns c:=by
 have hp:=Kept.set5 (Kept.refl sb W) (.slice p n cap) (zI zL k') (zI zL En) (zI zL E') (zI zL O')
 have hw:=h.w0s
 have hn2:=h.n2
 exact⟨h.A.put _ _ _ _ _,h.cx.keep hp.size (fun j hj hj2=>hp.block j hj zce),aR h.rg (fun j hj hj2=>hp.block j hj2 (by have:=(h.rg.lt j hj).1;omega)),h.gb,Nat.lt_of_lt_of_le h.gl hp.size,h.gd,h.gr,
  h.rs.heap (hp.block res h.rs.lt zac),h.bel.trans (hp.below hw h.bel.size),h.tk.of_block (fun z=>hp.block b (h.tk.lt z) (by have:=h.tb z;omega)) hp.size,h.tb,h.dl,h.rl,h.el,h.n1,h.n2,hk⟩
theorem RSt.step {vd' vr':Value}{ns':List (NV×NV)}{ds':List Pa.Decl}{rs':List Pa.Rule}(h:RSt w0 W res sb gx p b off n cap ts En k E O vd vr vg ns c)(hc:Cx V (sb+2) (sb+1) gx (ag ts En) ds' rs' vd' vr' ns')
  (hk:KeptS (fun j=>j=sb+1\/vd.ownBlock=some j\/vr.ownBlock=some j) W V)(ho:vd'.ownBlock=vd.ownBlock\/∃j,vd'.ownBlock=some j/\W.heap.size<=j)(ho':vr'.ownBlock=vr.ownBlock\/∃j,vr'.ownBlock=some j/\W.heap.size<=j)(hd:ds'.length<=12)(hl:rs'.length<=100) :
  RSt w0 V res sb gx p b off n cap ts En k E O vd' vr' vg ns' ⟨ds',rs',c.es⟩:=by
 have hvd:∀j,vd.ownBlock=some j->sb+2<=j:=fun j hj=>(h.cx.dr.lt j hj).1
 have hvr:∀j,vr.ownBlock=some j->sb+2<=j:=fun j hj=>(h.cx.rr.lt j hj).1
 have hlow:∀j,j<sb+1->j<W.heap.size->V.heap[j]? = W.heap[j]?:=fun j a1 a2=>hk.block j a2 (by
  rintro(e|e|e)
  ·omega
  ·have:=hvd j e;omega
  ·have:=hvr j e;omega)
 have hgl:=h.gl
 have hw:=h.w0s
 have hn2:=h.n2
 refine⟨h.A.of (hlow sb zac (World.block_lt_of_cell? _ _ h.A.c0)),hc,aR h.rg (fun j hj hj2=>hk.block j hj2 ?_),h.gb,Nat.lt_of_lt_of_le h.gl hk.size,?_,?_,h.rs.heap (hlow res zac h.rs.lt),
  h.bel.trans ⟨hk.os,hk.tape,hk.output,hk.size,fun j hj=>hlow j zac (by have:=h.bel.size;omega)⟩,h.tk.of_block (fun z=>hlow b (by have:=h.tb z;omega) (h.tk.lt z)) hk.size,h.tb,hd,hl,h.el,h.n1,h.n2,h.kn⟩
 ·have e:=h.gb j hj
  have hb:=(h.rg.lt j hj).1
  rintro(e|e|e)
  ·omega
  ·exact h.gd (by rw[e];congr 1)
  ·exact h.gr (by rw[e];congr 1)
 ·rcases ho with e|⟨j,e,hj⟩
  ·rw[e];exact h.gd
  ·rw[e];intro e2;injection e2 with e2;omega
 ·rcases ho' with e|⟨j,e,hj⟩
  ·rw[e];exact h.gr
  ·rw[e];intro e2;injection e2 with e2;omega
theorem mY {v:Value}{b0 o:Nat}{x:Value}{S:Nat->Prop}(hg:W.grownBy V v.ownBlock)(h1:S b0)(h2:∀j,v.ownBlock=some j->S j):KeptS S W (V.setCell ⟨b0,o,none⟩ x) :=
 ⟨hg.os,hg.tape,hg.output,by simpa[World.setCell] using hg.size,fun j hj hs=>(Below.heap_setCell _ _ _ _ (fun (e:j=b0)=>hs (e▸h1))).trans (hg.block j hj (fun e=>hs (h2 j e.symm)))⟩
theorem RSt.addD {d:Pa.Decl}{v':Value}(h:RSt w0 W res sb gx p b off n cap ts En k E O vd vr vg ns c)(hr:V.ownsRow (sb+2) 45 8 v' (c.ds.length+1) (c.ds.flatMap (dV (ag ts En))++dV (ag ts En) d))(hg:W.grownBy V vd.ownBlock)(ho:v'.ownBlock=vd.ownBlock\/v'.ownBlock=some W.heap.size)(hl:c.ds.length<12) :
  RSt w0 (V.setCell ⟨sb+1,0,none⟩ v') res sb gx p b off n cap ts En k E O v' vr vg ns ⟨c.ds++[d],c.rs,c.es⟩ :=
 h.step (h.cx.addD hr hg ho) (mY hg (.inl rfl) (fun j hj=> .inr (.inl hj))) (ho.imp id (fun e=>⟨_,e,Nat.le_refl _⟩)) (.inl rfl) zai h.rl
theorem RSt.addR {r:Pa.Rule}{x y:NV}{v':Value}(h:RSt w0 W res sb gx p b off n cap ts En k E O vd vr vg ns c)(hr:V.ownsRow (sb+2) 49 28 v' (c.rs.length+1) (rFlat (ag ts En) c.rs ns++rV (ag ts En) r x y))(hg:W.grownBy V vr.ownBlock)(ho:v'.ownBlock=vr.ownBlock\/v'.ownBlock=some W.heap.size)(hl:c.rs.length<100)
  (hx:NodeA W (NBl (sb+2) gx vd vr) (ag ts En) r.whn x)(hy:NodeA W (NBl (sb+2) gx vd vr) (ag ts En) r.give y) :
  RSt w0 (V.setCell ⟨sb+1,1,none⟩ v') res sb gx p b off n cap ts En k E O vd v' vg (ns++[(x,y)]) ⟨c.ds,c.rs++[r],c.es⟩ :=
 h.step (h.cx.addR hr hg ho hx hy) (mY hg (.inl rfl) (fun j hj=> .inr (.inr hj))) (.inl rfl) (ho.imp id (fun e=>⟨_,e,Nat.le_refl _⟩)) h.dl zai
theorem RSt.app {vg':Value}{F:Int}{q:Nat}(h:RSt w0 W res sb gx p b off n cap ts En k E O vd vr vg ns c)(hg:W.grownBy V vg.ownBlock)(hown:V.ownsRow (sb+2) 53 2 vg' (c.es.length+1) (c.es.flatMap (gV (ag ts En))++gV (ag ts En) (F,q)))(ho:vg'.ownBlock=vg.ownBlock\/vg'.ownBlock=some W.heap.size)(hl:c.es.length<20) :
  ∃gx',RSt w0 V res sb gx' p b off n cap ts En k E O vd vr vg' ns (c.err F q):=by
 have hvg:∀j,vg.ownBlock=some j->sb+2<=j:=fun j hj=>(h.rg.lt j hj).1
 have hlow:∀j,j<sb+2->j<W.heap.size->V.heap[j]? = W.heap[j]?:=fun j a1 a2=>hg.block j a2 (fun e=>by have:=hvg j e.symm;omega)
 have hlt:=hown.lt
 have hw:=h.w0s
 have hn2:=h.n2
 have key:∀gx',(gx'=gx\/gx'=W.heap.size)->(∀j,vg'.ownBlock=some j->j=gx')->gx'<V.heap.size->vd.ownBlock≠some gx'->vr.ownBlock≠some gx'->RSt w0 V res sb gx' p b off n cap ts En k E O vd vr vg' ns (c.err F q):=fun gx' hx hb hs hd hr =>
  ⟨h.A.of (hlow sb zac (World.block_lt_of_cell? _ _ h.A.c0)),h.cx.app hg (fun j hj=>⟨h.gb j hj,hvg j hj⟩) h.gd h.gr hx,by
   show V.ownsRow _ _ 2 vg' (c.es++[(F,q)]).length ((c.es++[(F,q)]).flatMap _)
   rw[List.length_append,List.flatMap_append];simpa using hown,hb,hs,hd,hr,h.rs.heap (hlow res zac h.rs.lt),
   h.bel.trans ⟨hg.os,hg.tape,hg.output,hg.size,fun j hj=>hlow j zac (by have:=h.bel.size;omega)⟩,h.tk.of_block (fun z=>hlow b (by have:=h.tb z;omega) (h.tk.lt z)) hg.size,h.tb,h.dl,h.rl,by show(c.es++[(F,q)]).length<=20;simp;omega,h.n1,h.n2,h.kn⟩
 exact zz84
theorem RSt.hp2 (h:RSt w0 W res sb gx p b off n cap ts En k E O vd vr vg ns c)(x y:Value)(j:Nat)(hj:sb+2<=j):((W.setCell ⟨res,0,none⟩ x).setCell ⟨res,1,none⟩ y).heap[j]? = W.heap[j]?:=by
 have:=h.n2
 exact(Below.heap_setCell _ _ _ _ (by show j≠res;omega)).trans (Below.heap_setCell _ _ _ _ (by show j≠res;omega))
theorem RSt.bp2 (h:RSt w0 W res sb gx p b off n cap ts En k E O vd vr vg ns c)(x y:Value):RowKit.Below w0.heap.size w0 ((W.setCell ⟨res,0,none⟩ x).setCell ⟨res,1,none⟩ y) :=
 (h.bel.setCell (p:=⟨res,0,none⟩) (by have:=h.n1;show _<=res;omega) x).setCell (p:=⟨res,1,none⟩) (by have:=h.n1;show _<=res;omega) y
theorem RSt.finY (h:RSt w0 W res sb gx p b off n cap ts En k E O vd vr vg ns c)(he:c.es=[]):ByV ((W.setCell ⟨res,0,none⟩ vd).setCell ⟨res,1,none⟩ vr) w0.heap.size (ag ts En) c vd vr aB:=by
 have hb:=h.w0s
 exact zz67
theorem RSt.finN (h:RSt w0 W res sb gx p b off n cap ts En k E O vd vr vg ns c)(he:c.es≠[]):ByV ((W.setCell ⟨res,0,none⟩ aB).setCell ⟨res,1,none⟩ aB) w0.heap.size (ag ts En) c aB aB vg:=by
 have hb:=h.w0s
 exact Dw
end
theorem setCells_size {b:Nat}:∀(vs:List Value) (o:Nat) (v:World),(v.setCells b o vs).heap.size=v.heap.size
 | [],_,_=>rfl
 | x::vs,o,v=>(setCells_size vs (o+1) _).trans zbb
section
variable {ops:Array Oper} {rest:List Oper} {o1 o2 o3 o4:Oper} {a:Act} {v:World} {Q:Exit->Act->World->Prop} {T S:TypeId} {n m:Nat} {Z Y L M:List Value}
theorem qy {x:Operand}{y u:Value}(hgd:o1.guard=none)(ho:o1.op = .load T x)(hx:a.eval x=y)(hr:(Instr.loadAt T y).run Tryz.prog v = .ok u v)(h:wpList Tryz.prog ops Q rest (a.put o1.dst u) v):wpList Tryz.prog ops Q (o1::rest) a v:=wpList_plain hgd fun _ hK=>uT ho hx hr (hK _ _ h)
theorem nU {x:Operand}{y u:Value}{v':World}(hgd:o1.guard=none)(ho:o1.op = .buildSlice T 1 #[(0,x)])(hx:a.eval x=y)(hr:(Instr.buildSlice T 1 #[(0,y)]).run Tryz.prog v = .ok u v')(h:wpList Tryz.prog ops Q rest (a.put o1.dst u) v'):wpList Tryz.prog ops Q (o1::rest) a v:=wpList_plain hgd fun _ hK=>kg ho hx hr (hK _ _ h)
theorem iW (g1:o1.guard=none)(g2:o2.guard=none)(g3:o3.guard=none)(g4:o4.guard=none)(h1:o1.op = .alloc T)(h2:o2.op = .alloc S){x3 y3 x4 y4:Operand}(h3:o3.op = .store T x3 y3)(h4:o4.op = .store S x4 y4)
  (ha:∀w,(Instr.alloc T true (.tuple #[])).run Tryz.prog w = .ok (.pointer (some ⟨w.heap.size,0,none⟩)) (w.alloc (.cells Z.toArray T)))(hb:∀w,(Instr.alloc S true (.tuple #[])).run Tryz.prog w = .ok (.pointer (some ⟨w.heap.size,0,none⟩)) (w.alloc (.cells Y.toArray S)))
  (hi:(Tryz.prog.info? T).map (·.size)=some n)(hj:(Tryz.prog.info? S).map (·.size)=some m)(hZ:Z.length=n)(hY:Y.length=m)(hL:L.length=n)(hM:M.length=m)(oL:∀u∈L,u.oneCell'=true)(oM:∀u∈M,u.oneCell'=true)(n0:0<n)
  (hx3:((a.put o1.dst (.pointer (some ⟨v.heap.size,0,none⟩))).put o2.dst (.pointer (some ⟨v.heap.size+1,0,none⟩))).eval x3 = .pointer (some ⟨v.heap.size,0,none⟩))
  (hy3:((a.put o1.dst (.pointer (some ⟨v.heap.size,0,none⟩))).put o2.dst (.pointer (some ⟨v.heap.size+1,0,none⟩))).eval y3 = .agg L.toArray)
  (hx4:(((a.put o1.dst (.pointer (some ⟨v.heap.size,0,none⟩))).put o2.dst (.pointer (some ⟨v.heap.size+1,0,none⟩))).put o3.dst undef).eval x4 = .pointer (some ⟨v.heap.size+1,0,none⟩))
  (hy4:(((a.put o1.dst (.pointer (some ⟨v.heap.size,0,none⟩))).put o2.dst (.pointer (some ⟨v.heap.size+1,0,none⟩))).put o3.dst undef).eval y4 = .agg M.toArray)
  (h:∀V:World,RowKit.Below v.heap.size v V->V.heap.size=v.heap.size+2->aH V v.heap.size L->aH V (v.heap.size+1) M->wpList Tryz.prog ops Q rest ((((a.put o1.dst (.pointer (some ⟨v.heap.size,0,none⟩))).put o2.dst (.pointer (some ⟨v.heap.size+1,0,none⟩))).put o3.dst undef).put o4.dst undef) V) :
  wpList Tryz.prog ops Q (o1::o2::o3::o4::rest) a v:=by
 have s1:∀(v:World) (o:Obj),(v.alloc o).heap.size=v.heap.size+1:=fun v o=>by simp
 have b1:=(Below.refl v.heap.size v).alloc (Nat.le_refl _) (.cells Z.toArray T)
 have b2:=(Below.refl (v.alloc (.cells Z.toArray T)).heap.size (v.alloc (.cells Z.toArray T))).alloc (Nat.le_refl _) (.cells Y.toArray S)
 have D:=(aH.new v Z T).bel zac b2
 have E:=aH.new (v.alloc (.cells Z.toArray T)) Y S
 rw[s1] at E
 have B:=b1.trans (b2.mono (by rw[s1];omega))
 have hs:((v.alloc (.cells Z.toArray T)).alloc (.cells Y.toArray S)).heap.size=v.heap.size+2:=by rw[s1,s1]
 refine jA g1 h1 (ha v) (jA g2 h2 (hb _) ?_)
 rw[s1]
 generalize (v.alloc (.cells Z.toArray T)).alloc (.cells Y.toArray S)=V0 at *
 refine iL g3 h3 hx3 hy3 (dz T n hi V0 v.heap.size Z L D hZ hL oL) ?_
 have k1:=aT (b:=v.heap.size) (w:=V0) L 0 V0 (Kept.refl _ _)
 have D1:=D.cells (L:=L) (by rw[hL,hZ])
 have E1:aH (V0.setCells v.heap.size 0 L) (v.heap.size+1) Y:=E.of (k1.block _ zac zac)
 have hs1:(V0.setCells v.heap.size 0 L).heap.size=V0.heap.size:=setCells_size L 0 V0
 refine iL g4 h4 hx4 hy4 (dz S m hj _ (v.heap.size+1) Y M E1 hY hM oM) ?_
 have k2:=aT (b:=v.heap.size+1) (w:=V0.setCells v.heap.size 0 L) M 0 _ (Kept.refl _ _)
 refine h _ ?_ ?_ ?_ ?_
 ·exact(B.trans (k1.below (Nat.le_refl _) zac)).trans (k2.below zac zac)
 ·rw[setCells_size];omega
 ·exact D1.of (k2.block _ zac zac)
 ·exact E1.cells (by rw[hM,hY])
end
theorem iV (w:World):(Instr.alloc 45 true (.tuple #[])).run Tryz.prog w = .ok (.pointer (some ⟨w.heap.size,0,none⟩)) (w.alloc (.cells (List.toArray [.string ⟨#[]⟩,.bool false,zI zL 0,zI zL 0,zI zL 0,zI zL 0,zI zL 0,zI zL 0]) 45)):=zab
theorem gy (w:World):(Instr.alloc 62 true (.tuple #[])).run Tryz.prog w = .ok (.pointer (some ⟨w.heap.size,0,none⟩)) (w.alloc (.cells (List.toArray [.slice none 0 0,zI zL 0,zI zL 0,zI zL 0,zI zL 0]) 62)):=zab
def qo:List Value:=[.string ⟨#[]⟩,zI zL 0,zI zL 0,.string ⟨#[]⟩,zI zL 0,zI zL 0,zI zL 0,zI zL 0,zI zL 0,.string ⟨#[]⟩,zI zL 0,zI zL 0,.bool false,zI zL 0,zI zL 0,zI zL 0,.slice none 0 0,zI zL 0,zI zL 0,.string ⟨#[]⟩,zI zL 0,zI zL 0,.bool false,zI zL 0,zI zL 0,zI zL 0,.slice none 0 0,zI zL 0]
theorem gP (w:World):(Instr.alloc 49 true (.tuple #[])).run Tryz.prog w = .ok (.pointer (some ⟨w.heap.size,0,none⟩)) (w.alloc (.cells qo.toArray 49)):=bK w
theorem oI (x0 x1 x2 x3 x4 x5 x6 x7:Value)(w:World):(Instr.buildSlice 23 1 #[(0,.agg #[x0,x1,x2,x3,x4,x5,x6,x7])]).run Tryz.prog w = .ok (.slice (some ⟨w.heap.size,0,none⟩) 1 1) (w.alloc (.cells #[x0,x1,x2,x3,x4,x5,x6,x7] 45)):=zab
theorem sK (L:List Value)(h:L.length=8)(w:World):(Instr.buildSlice 23 1 #[(0,.agg L.toArray)]).run Tryz.prog w = .ok (.slice (some ⟨w.heap.size,0,none⟩) 1 1) (w.alloc (.cells L.toArray 45)):=by
 match L,h with
 | [x0,x1,x2,x3,x4,x5,x6,x7],_=>exact oI x0 x1 x2 x3 x4 x5 x6 x7 w
theorem pF (L:List Value)(h:L.length=28)(w:World):(Instr.buildSlice 24 1 #[(0,.agg L.toArray)]).run Tryz.prog w = .ok (.slice (some ⟨w.heap.size,0,none⟩) 1 1) (w.alloc (.cells L.toArray 49)):=by
 match L,h with
 | [x0,x1,x2,x3,x4,x5,x6,x7,x8,x9,x10,x11,x12,x13,x14,x15,x16,x17,x18,x19,x20,x21,x22,x23,x24,x25,x26,x27],_=>exact kT x0 x1 x2 x3 x4 x5 x6 x7 x8 x9 x10 x11 x12 x13 x14 x15 x16 x17 x18 x19 x20 x21 x22 x23 x24 x25 x26 x27 w
theorem kv {t:List Tok}(h:isW dU t=true):item M0 t=(jZ t).bind fun d r=> .ok (.fact d) r:=by
 unfold item jH jZ
 rw[if_pos h]
 simp only[bind_assoc,bind_ok]
theorem kF {t:List Tok}(h:isW dU t=false):item M0 t=(dE t).bind fun d r=> .ok (.rule d) r:=by
 unfold item jH dE
 rw[if_neg (by rw[h];simp)]
 simp only[bind_assoc,bind_ok]
section
variable {ts:List Tok} {En k:Nat} {O:Int}
theorem gZ {α:Type}{o:List Tok->Out α}{a:α}{r:List Tok}(hx:o (ts.drop k) = .ok a r):(Sg.mk k 0 O).run ts En o=⟨ts.length-r.length,0,O⟩/\(Sg.mk k 0 O).val ts o=some a:=by
 simp[Sg.run,Sg.val,hx,outT]
theorem nW {α:Type}{o:List Tok->Out α}{e:Int}{q m:Nat}(hx:o (ts.drop k) = .er e q m):(Sg.mk k 0 O).run ts En o=⟨ts.length-m,e,ag ts En q⟩/\(Sg.mk k 0 O).val ts o=none:=by
 simp[Sg.run,Sg.val,hx,outT]
theorem yO {it:Pa.Item}{r:List Tok}(hi:item M0 (ts.drop k) = .ok it r)(hk:k<=ts.length):∃k',ts.length-r.length=k'/\r=ts.drop k'/\k<k'/\k'<=ts.length:=by
 have g:=dJ (M:=M0) (ts.drop k)
 have hl:=fH hi
 rw[List.length_drop] at hl
 rw[hi] at g
 obtain⟨pre,t,e,-,-⟩:=g
 have e':ts.drop k=(pre++[t])++r:=by rw[List.append_assoc];exact e
 obtain⟨h1,h2,h3⟩:=drop_left e' hk
 exact⟨_,rfl,h1.symm,zac,zac⟩
theorem Ep {e:Int}{q m:Nat}(hi:item M0 (ts.drop k) = .er e q m)(hk:k<ts.length):e≠0/\∃k',ts.length-m=k'/\k<=k'/\k'<=ts.length/\(ts.drop k).drop ((ts.drop k).length-m)=ts.drop k'/\(skip (ts.drop k')).length<ts.length-k:=by
 have g:=dJ (M:=M0) (ts.drop k)
 have h0:(ts.drop k).length≠0:=zbn
 have hl:=fG hi h0
 rw[hi] at g
 have g2:=g.2.1
 have g3:=g.2.2.1
 rw[List.length_drop] at g2 hl
 have e1:(ts.drop k).drop (ts.length-k-m)=ts.drop (ts.length-m):=by rw[List.drop_drop];congr 1;omega
 rw[e1] at hl
 exact⟨by rcases g.1 with h|h|h<;>rw[h]<;>decide,_,rfl,zac,zac,by rw[List.length_drop];exact e1,hl.1⟩
end
theorem xB {G:World}{k lo:Nat}(a E:Int)(h:G.heap[k]? = some (.cells #[zI zL a,zI zL E] 53))(hn:lo<=k)(ofs:Nat->Int)(ho:ofs 0=a):ByV G lo ofs ⟨[],[],[(E,0)]⟩ aB aB (.slice (some ⟨k,0,none⟩) 1 1):=mE a E ofs h hn ho
theorem qG:∀l:List Tok,∃pre,l=pre++skip l
 | []=>⟨[],rfl⟩
 | x::l=>by
  simp only[skip]
  split
  ·exact⟨[x],rfl⟩
  ·obtain⟨pre,h⟩:=qG l
   exact⟨x::pre,by rw[List.cons_append,<-h]⟩
theorem tL (ts:List Tok)(k:Nat):skip (ts.drop k)=ts.drop (ts.length-(skip (ts.drop k)).length):=by
 obtain⟨pre,h⟩:=qG (ts.drop k)
 have e:ts=ts.take k++(pre++skip (ts.drop k)):=by rw[<-h,List.take_append_drop]
 generalize skip (ts.drop k)=r at *
 have hl:=congrArg List.length e
 rw[List.length_append,List.length_append] at hl
 have e2:ts.length-r.length=(ts.take k++pre).length:=by rw[List.length_append];omega
 rw[e2]
 have h1:(ts.take k++pre)++r=ts:=by rw[List.append_assoc,<-e]
 have h2:=List.drop_left (l₁:=ts.take k++pre) (l₂:=r)
 rw[h1] at h2
 exact h2.symm
theorem fZ {V:World}{b q:Nat}{ofs:Nat->Int}{a E:Int}(ha:a=ofs q)(h:At2 V b (zI zL a) (zI zL E)):∀(j:Nat) (u:Value),(gV ofs (E,q))[j]? = some u->V.cell? ⟨b,j,none⟩=some u
 | 0,u,hu=>by simp[gV] at hu;subst hu;rw[<-ha];exact h.c0
 | 1,u,hu=>by simp[gV] at hu;subst hu;exact h.c1
 | j+2,u,hu=>by simp[gV] at hu
theorem rZ {w v:World}{q:Option Addr}{b n cap En:Nat}{ts:List Tok}(Z:At2 v w.heap.size aB aB)(B:RowKit.Below w.heap.size w v)(hS:SlT v q b 0 n ts)(hlo:w.heap.size<v.heap.size) :
  RSt w ((v.alloc (.cells #[.slice q n cap,zI zL (0:Nat),zI zL (En:Nat),zI zL 0,zI zL 0] 62)).alloc (.cells #[aB,aB] 26)) w.heap.size v.heap.size (v.heap.size+1) q b 0 n cap ts En 0 0 0 aB aB aB [] ⟨[],[],[]⟩:=by
 have s1:∀(v:World) (o:Obj),(v.alloc o).heap.size=v.heap.size+1:=fun v o=>by simp
 have h1:∀(v:World) (o:Obj),RowKit.Below v.heap.size v (v.alloc o):=fun v o=>(Below.refl _ _).alloc (Nat.le_refl _) o
 have b1:=h1 v (.cells #[.slice q n cap,zI zL (0:Nat),zI zL (En:Nat),zI zL 0,zI zL 0] 62)
 have b2:=h1 (v.alloc (.cells #[.slice q n cap,zI zL (0:Nat),zI zL (En:Nat),zI zL 0,zI zL 0] 62)) (.cells #[aB,aB] 26)
 refine⟨(B5.new v _ _ _ _ _ _).bel b2,⟨?_,⟨rfl,.inl ⟨rfl,rfl⟩⟩,⟨rfl,.inl ⟨rfl,rfl⟩⟩,rfl,fun i h=>absurd h (by simp),fun j hj=>(by cases hj),zac⟩,⟨rfl,.inl ⟨rfl,rfl⟩⟩,fun j hj=>(by cases hj),by rw[s1,s1];omega,by simp[Value.ownBlock],by simp[Value.ownBlock],
  (Z.bel b1).bel b2,(B.trans (b1.mono B.size)).trans (b2.mono (by rw[s1];omega)),(hS.bel b1).bel b2,fun z=>hS.lt z,by simp,by simp,by simp,rfl,hlo,Nat.zero_le _⟩
 have:=At2.new (v.alloc (.cells #[.slice q n cap,zI zL (0:Nat),zI zL (En:Nat),zI zL 0,zI zL 0] 62)) aB aB 26
 rw[s1] at this
 exact this
theorem Cj (s:ByteArray)(hs:s.size<=281474976710656)(E:Int)(a:Nat)(h:lex Vh s.data.toList = .er E a)(w:World):Calls Tryz.prog 6 #[.string s] w fun e w'=>EG w s.data.toList e w':=by
 have KL:=zH (fun w=>jy s w hs)
 have hE:=(lm h).1
 have hE2:(E != 0)=true:=zcv
 have h1:byR s.data.toList=⟨[],[],[(E,0)]⟩:=by unfold byR;rw[h]
 have h2:bY s.data.toList=fun _=>(a:Int):=by unfold bY;rw[h]
 have H1:=zH h1
 have H2:=zH h2
 rw[h] at KL
 clear h h1 h2
 have Z:=zH (At2.new w aB aB 26)
 have B:=zH ((Below.refl w.heap.size w).alloc (Nat.le_refl _) (.cells #[aB,aB] 26))
 go_enter Tryz.func6,Tryz.ntmps6
 go_wp2_with fail
 generalize w.alloc (.cells #[aB,aB] 26)=W1 at *
 refine(KL.out _).mono ?_
 rintro _ v1 ⟨q,b,cap,n,rfl,-,-,hb⟩
 replace Z:=zH (Z.out.bel hb)
 have BV:=zH (B.out.trans (hb.mono B.out.size))
 have hlo:w.heap.size<v1.heap.size:=World.block_lt_of_cell? _ _ Z.out.c0
 clear hb KL B hE
 obtain⟨c0,c1,f0,f1⟩:=Z.out
 simp only[Res.e,Res.a]
 go_wp2_with fail
 have Z2:=Z.out.put aB aB
 have BX:=(BV.out.setCell (p:=⟨w.heap.size,0,none⟩) (Nat.le_refl _) aB).setCell (p:=⟨w.heap.size,1,none⟩) (Nat.le_refl _) aB
 have hVs:((v1.setCell ⟨w.heap.size,0,none⟩ aB).setCell ⟨w.heap.size,1,none⟩ aB).heap.size=v1.heap.size:=zbb
 generalize (v1.setCell ⟨w.heap.size,0,none⟩ aB).setCell ⟨w.heap.size,1,none⟩ aB=V2 at *
 have bx:=(Below.refl V2.heap.size V2).alloc (Nat.le_refl _) (.cells #[zI zL (a:Nat),zI zL E] 53)
 have hrow:=heap_alloc_new V2 (.cells #[zI zL (a:Nat),zI zL E] 53)
 rw[hVs] at hrow
 refine(?_:∀G:World,At2 G w.heap.size aB aB->RowKit.Below w.heap.size w G->ByV G w.heap.size (fun _=>(a:Int)) ⟨[],[],[(E,0)]⟩ aB aB (.slice (some ⟨v1.heap.size,0,none⟩) 1 1)->bodyPost _ _ _ _ _ G) _ (Z2.bel bx) (BX.trans (bx.mono BX.size)) (xB (a:Int) E hrow zac _ rfl)
 intro G hG hB hV
 obtain⟨y0,y1,-,-⟩:=hG
 rw[<-H1.out,<-H2.out] at hV
 exact bodyPost_ret (v:= .tuple #[.agg #[aB,aB],.slice (some ⟨v1.heap.size,0,none⟩) 1 1]) (by simp[results,Tryz.results6,go_sem,y0,y1]) rfl ⟨_,_,_,rfl,hV,hB⟩
theorem BU (s:ByteArray)(hs:s.size<=281474976710656)(ts:List Tok)(h:lex Vh s.data.toList = .ok ts)(w:World):Calls Tryz.prog 6 #[.string s] w fun e w'=>EG w s.data.toList e w':=by
 have KL:=zH (fun w=>jy s w hs)
 have hT:=lW h
 have hsh:=ib h
 obtain⟨F,hF⟩:∃F,F=parse M0 ts:=⟨_,rfl⟩
 obtain⟨En,hEn⟩:∃n,n=s.size:=⟨_,rfl⟩
 have HFO:Hid (F=byR s.data.toList/\ag ts En=bY s.data.toList):=by
  refine⟨?_,?_⟩
  ·unfold byR;rw[h];exact hF
  ·unfold bY;rw[h];simp only;rw[ay,hEn]
 have HF0:Hid (gof M0 (ts.drop 0) ⟨[],[],[]⟩=F):=by show _=_;rw[hF];rfl
 rw[h] at KL
 clear h hF
 have HEn:=zH hEn
 have Z:=zH (At2.new w aB aB 26)
 have B:=zH ((Below.refl w.heap.size w).alloc (Nat.le_refl _) (.cells #[aB,aB] 26))
 clear hEn
 go_enter Tryz.func6,Tryz.ntmps6
 go_wp2_with fail
 generalize w.alloc (.cells #[aB,aB] 26)=W1 at *
 refine(KL.out _).mono ?_
 rintro _ v1 ⟨q,b,cap,n,rfl,hS,-,hb⟩
 replace Z:=zH (Z.out.bel hb)
 replace B:=zH (B.out.trans (hb.mono B.out.size))
 clear hb KL
 change SlT _ _ _ _ _ ts at hS
 have hl:=hS.ln
 have hmx:=hS.max
 have HS:=zH hS
 clear hS
 simp only[Res.e,Res.a]
 rw[show((0:Nat):Int)=0 from rfl]
 have hlo:w.heap.size<v1.heap.size:=World.block_lt_of_cell? _ _ Z.out.c0
 go_wp2_with fail
 rw[<-HEn.out]
 have SS:Hid (RSt w ((v1.alloc (.cells #[.slice q n cap,zI zL (0:Nat),zI zL (En:Nat),zI zL 0,zI zL 0] 62)).alloc (.cells #[aB,aB] 26)) w.heap.size v1.heap.size (v1.heap.size+1) q b 0 n cap ts En 0 0 0 aB aB aB [] ⟨[],[],[]⟩):=rZ Z.out B.out HS.out hlo
 rw[show((0:Nat):Int)=0 from rfl] at SS
 generalize ((v1.alloc (.cells #[.slice q n cap,zI zL 0,zI zL (En:Nat),zI zL 0,zI zL 0] 62)).alloc (.cells #[aB,aB] 26))=W0 at *
 clear Z B HEn
 have SS2:Hid (RSt w W0 w.heap.size v1.heap.size (v1.heap.size+1) q b 0 n cap ts En 0 0 0 aB aB aB [] ⟨[],[],[]⟩):=SS
 clear SS
 generalize v1.heap.size=sb at *
 obtain⟨res,hres⟩:∃x,x=w.heap.size:=⟨_,rfl⟩
 rw[<-hres] at SS2
 rw[<-hres]
 have HRS:=zH hres
 clear hres
 go_loopg [9] n (fun g s9 wr=>∃(k gx:Nat) (O:Int) (vd vr:Value) (ns:List (NV×NV)) (c:By),n-k<=g/\Hid (RSt w wr res sb gx q b 0 n cap ts En k 0 O vd vr s9 ns c)/\Hid (gof M0 (ts.drop k) c=F))
 case atStart=>exact⟨0,sb+1,0,aB,aB,[],⟨[],[],[]⟩,zac,SS2,HF0⟩
 case round =>
  clear SS2 HF0
  obtain⟨k,gx,O,vd,vr,ns,c,hg,S,HF⟩:=hrel
  obtain⟨gq,gc,rfl⟩:=aF S.out.rg
  obtain⟨dq,dc,rfl⟩:=aF S.out.cx.dr
  obtain⟨rq,rc,rfl⟩:=aF S.out.cx.rr
  have hel:=S.out.el
  have hdl:=S.out.dl
  have hrl:=S.out.rl
  have hkl:=S.out.kn
  obtain⟨c0,c1,c2,c3,c4,f0,f1,f2,f3,f4⟩:=S.out.A
  obtain⟨d0,d1,df0,df1⟩:=S.out.cx.at2
  by_cases hkn:k=n
  ·have hk1:decide (k<n)=false:=decide_eq_false zac
   have HE:Hid (c=F):=by show _=_;rw[<-HF.out,List.drop_eq_nil_of_le zac,lZ]
   clear HF hg
   have hk0:¬(k:Int)<(n:Int):=zac
   exact zz38
  ·have hkn2:k<n:=by omega
   clear hkn
   by_cases hfu:20<=c.es.length
   ·have e20:decide (c.es.length<20)=false:=decide_eq_false zac
    have e20':¬(c.es.length:Int)<20:=zac
    have HE:Hid (c=F):=by show _=_;rw[<-HF.out,mq zac]
    clear HF hg
    exact zz38
   ·have e20':(c.es.length:Int)<20:=by omega
    have hlt20:c.es.length<20:=zac
    clear hfu
    obtain⟨at0,hat⟩:∃x,x=ag ts En (n-k):=⟨_,rfl⟩
    have KO:=zH (fun w hS=>aj ts q b 0 cap n k En 0 O w hS zac)
    rw[<-hat] at KO
    have HAT:=zH hat
    have KI:=zH (fun w hS=>bE dU ts q b 0 cap n k En O w hS)
    clear hat
    go_wp2_with fail
    refine(KO.out _ S.out.tk).mono ?_
    rintro _ v0 ⟨rfl,hb⟩
    replace S:=zH (S.out.bl hb)
    clear hb KO c0 c1 c2 c3 c4 f0 f1 f2 f3 f4 d0 d1 df0 df1
    obtain⟨c0,c1,c2,c3,c4,f0,f1,f2,f3,f4⟩:=S.out.A
    obtain⟨d0,d1,df0,df1⟩:=S.out.cx.at2
    cases hf:isW dU (ts.drop k) with
    | true =>
     rw[hf] at KI
     go_wp2_with fail
     refine(KI.out _ S.out.tk).mono ?_
     rintro _ v2 ⟨rfl,hb⟩
     replace S:=zH (S.out.bl hb)
     clear hb KI c0 c1 c2 c3 c4 f0 f1 f2 f3 f4 d0 d1 df0 df1
     obtain⟨c0,c1,c2,c3,c4,f0,f1,f2,f3,f4⟩:=S.out.A
     obtain⟨d0,d1,df0,df1⟩:=S.out.cx.at2
     cases hx:jZ (ts.drop k) with
     | ok d r =>
      by_cases h12:c.ds.length=12
      ·have KF:=zH (fun w hS=>jK (p:=q) (b:=b) (off:=0) (cap:=cap) (n:=n) (En:=En) hT ⟨k,0,O⟩ S.out.kn w hS)
       obtain⟨z1,z2⟩:=gZ (ts:=ts) (En:=En) (k:=k) (O:=O) hx
       rw[z1,z2] at KF
       have hi:item M0 (ts.drop k) = .ok (.fact d) r:=by rw[kv hf,hx];rfl
       obtain⟨k',hk',hr',hkk,hkn'⟩:=yO hi zac
       have HG:Hid (gof M0 (ts.drop k') (c.err 2 (n-k))=F):=by
        show _=_
        rw[<-HF.out,kH zac hi,<-hr',List.length_drop,hl]
        unfold By.add By.err
        simp only
        rw[if_pos zac]
       rw[hk'] at KF
       simp only at KF
       clear z1 z2 hi hx hr' hk' HF
       have e12:((c.ds.length:Int)==12)=true:=zai
       go_wp2_with fail
       refine(KF.out _ S.out.tk).mono ?_
       rintro _ v3 ⟨L,hLn,hL1,rfl,hv,hb⟩
       clear hv
       replace S:=zH (S.out.bl hb)
       clear hb KF c0 c1 c2 c3 c4 f0 f1 f2 f3 f4 d0 d1 df0 df1
       have hsb:sb+2<=v3.heap.size:=S.out.bs
       have MARK:True:=trivial
       have MARK2:True:=trivial
       go_wp2_with (first
        | ((with_reducible show wpList _ _ _ ({ dst:=some 12,op:=_,type:=_,pos:=_,after:=_,guard:=_ }::_) _ _);refine iW (T:=45) (S:=62) (n:=8) (m:=5) (Z:=[.string ⟨#[]⟩,.bool false,zI zL 0,zI zL 0,zI zL 0,zI zL 0,zI zL 0,zI zL 0]) (Y:=[.slice none 0 0,zI zL 0,zI zL 0,zI zL 0,zI zL 0]) (L:=L) (M:=[.slice q n cap,zI zL (k':Nat),zI zL (En:Nat),zI zL 0,zI zL O]) rfl rfl rfl rfl rfl rfl rfl rfl iV gy zab zab rfl rfl hLn rfl hL1 zbj zah rfl rfl rfl rfl ?_;intro V1 hb hsz HD0 HT;replace S:=zH (S.out.bl hb);have HD:=zH HD0;simp only[Act.put,zA,zB,zC];clear hb HD0;obtain⟨y0,z0⟩:=HT 0 _ rfl;obtain⟨y1,z1⟩:=HT 1 _ rfl;obtain⟨y2,z2⟩:=HT 2 _ rfl;obtain⟨y3,z3⟩:=HT 3 _ rfl;obtain⟨y4,z4⟩:=HT 4 _ rfl;clear HT;obtain⟨c0,c1,c2,c3,c4,f0,f1,f2,f3,f4⟩:=S.out.A)
        | ((with_reducible show wpList _ _ _ ({ dst:=some 54,op:=_,type:=_,pos:=_,after:=_,guard:=_ }::_) _ _);clear MARK;have hk:=Kept.set5 (Kept.refl sb V1) (.slice q n cap) (zI zL (k':Nat)) (zI zL (En:Nat)) (zI zL 0) (zI zL O);replace HD:=zH (HD.out.call zac hk zac);replace S:=zH (S.out.st k' 0 O zac);clear hk y0 y1 y2 y3 y4 z0 z1 z2 z3 z4 c0 c1 c2 c3 c4 f0 f1 f2 f3 f4 hsz;generalize (((((V1.setCell ⟨sb,0,none⟩ (.slice q n cap)).setCell ⟨sb,1,none⟩ (zI zL (k':Nat))).setCell ⟨sb,2,none⟩ (zI zL (En:Nat))).setCell ⟨sb,3,none⟩ (zI zL 0)).setCell ⟨sb,4,none⟩ (zI zL O))=V2 at *;obtain⟨c0,c1,c2,c3,c4,f0,f1,f2,f3,f4⟩:=S.out.A;obtain⟨d0,d1,df0,df1⟩:=S.out.cx.at2)
        | ((with_reducible show wpList _ _ _ ({ dst:=some 109,op:=_,type:=_,pos:=_,after:=_,guard:=_ }::_) _ _);have bu:=(Below.refl V2.heap.size V2).alloc (Nat.le_refl _) (.cells #[zI zL at0,zI zL 2] 53);have AU:=At2.new V2 (zI zL at0) (zI zL 2) 53;replace S:=zH (S.out.bl bu);obtain⟨vg',W2,hr,hown,hgr,hob⟩:=dG 27 53 2 Tryz.underlying27 nR zah _ (sb+2) 27 (Value.slice gq c.es.length gc) c.es.length _ S.out.rg V2.heap.size (gV (ag ts En) (2,n-k)) rfl (fZ HAT.out AU) (by simp[gV,Value.oneCell']) zac S.out.bs;obtain⟨gx',hS3⟩:=S.out.app hgr hown hob zac;obtain⟨gq',gc',rfl⟩:=aF hown;refine jF (v:= .slice gq c.es.length gc) (y:= .slice (some ⟨V2.heap.size,0,none⟩) 1 1) _ _ rfl rfl rfl rfl hr ?_;replace S:=zH hS3;simp only[Act.put,zA,zB,zC];clear bu AU hr hown hgr hob hS3 c0 c1 c2 c3 c4 f0 f1 f2 f3 f4 d0 d1 df0 df1;obtain⟨c0,c1,c2,c3,c4,f0,f1,f2,f3,f4⟩:=S.out.A;obtain⟨d0,d1,df0,df1⟩:=S.out.cx.at2))
       go_roundg (n-k')
       case measure=>omega
       case rel=>exact⟨k',gx',O,_,_,_,_,Nat.le_refl _,S,HG⟩
      ·have KF:=zH (fun w hS=>jK (p:=q) (b:=b) (off:=0) (cap:=cap) (n:=n) (En:=En) hT ⟨k,0,O⟩ S.out.kn w hS)
       obtain⟨z1,z2⟩:=gZ (ts:=ts) (En:=En) (k:=k) (O:=O) hx
       rw[z1,z2] at KF
       have hi:item M0 (ts.drop k) = .ok (.fact d) r:=by rw[kv hf,hx];rfl
       obtain⟨k',hk',hr',hkk,hkn'⟩:=yO hi zac
       have HG:Hid (gof M0 (ts.drop k') ⟨c.ds++[d],c.rs,c.es⟩=F):=by
        show _=_
        rw[<-HF.out,kH zac hi,<-hr']
        unfold By.add
        simp only
        rw[if_neg zac]
       rw[hk'] at KF
       simp only at KF
       clear z1 z2 hi hx hr' hk' HF
       have e12:((c.ds.length:Int)==12)=false:=zai
       go_wp2_with fail
       refine(KF.out _ S.out.tk).mono ?_
       rintro _ v3 ⟨L,hLn,hL1,rfl,hv,hb⟩
       have hLv:=zH (hv d rfl)
       clear hv
       replace S:=zH (S.out.bl hb)
       clear hb KF c0 c1 c2 c3 c4 f0 f1 f2 f3 f4 d0 d1 df0 df1
       have hsb:sb+2<=v3.heap.size:=S.out.bs
       have MARK:True:=trivial
       have MARK2:True:=trivial
       go_wp2_with (first
        | ((with_reducible show wpList _ _ _ ({ dst:=some 12,op:=_,type:=_,pos:=_,after:=_,guard:=_ }::_) _ _);refine iW (T:=45) (S:=62) (n:=8) (m:=5) (Z:=[.string ⟨#[]⟩,.bool false,zI zL 0,zI zL 0,zI zL 0,zI zL 0,zI zL 0,zI zL 0]) (Y:=[.slice none 0 0,zI zL 0,zI zL 0,zI zL 0,zI zL 0]) (L:=L) (M:=[.slice q n cap,zI zL (k':Nat),zI zL (En:Nat),zI zL 0,zI zL O]) rfl rfl rfl rfl rfl rfl rfl rfl iV gy zab zab rfl rfl hLn rfl hL1 zbj zah rfl rfl rfl rfl ?_;intro V1 hb hsz HD0 HT;replace S:=zH (S.out.bl hb);have HD:=zH HD0;simp only[Act.put,zA,zB,zC];clear hb HD0;obtain⟨y0,z0⟩:=HT 0 _ rfl;obtain⟨y1,z1⟩:=HT 1 _ rfl;obtain⟨y2,z2⟩:=HT 2 _ rfl;obtain⟨y3,z3⟩:=HT 3 _ rfl;obtain⟨y4,z4⟩:=HT 4 _ rfl;clear HT;obtain⟨c0,c1,c2,c3,c4,f0,f1,f2,f3,f4⟩:=S.out.A)
        | ((with_reducible show wpList _ _ _ ({ dst:=some 54,op:=_,type:=_,pos:=_,after:=_,guard:=_ }::_) _ _);clear MARK;have hk:=Kept.set5 (Kept.refl sb V1) (.slice q n cap) (zI zL (k':Nat)) (zI zL (En:Nat)) (zI zL 0) (zI zL O);replace HD:=zH (HD.out.call zac hk zac);replace S:=zH (S.out.st k' 0 O zac);clear hk y0 y1 y2 y3 y4 z0 z1 z2 z3 z4 c0 c1 c2 c3 c4 f0 f1 f2 f3 f4 hsz;generalize (((((V1.setCell ⟨sb,0,none⟩ (.slice q n cap)).setCell ⟨sb,1,none⟩ (zI zL (k':Nat))).setCell ⟨sb,2,none⟩ (zI zL (En:Nat))).setCell ⟨sb,3,none⟩ (zI zL 0)).setCell ⟨sb,4,none⟩ (zI zL O))=V2 at *;obtain⟨c0,c1,c2,c3,c4,f0,f1,f2,f3,f4⟩:=S.out.A;obtain⟨d0,d1,df0,df1⟩:=S.out.cx.at2)
        | ((with_reducible show wpList _ _ _ ({ dst:=some 72,op:=_,type:=_,pos:=_,after:=_,guard:=_ }::_) _ _);refine qy rfl rfl rfl (aS 45 8 zab zab V2 v3.heap.size L hLn (fun j u hu=>(HD.out j u hu).1)) ?_;simp only[Act.put,zA,zB,zC])
        | ((with_reducible show wpList _ _ _ ({ dst:=some 73,op:=_,type:=_,pos:=_,after:=_,guard:=_ }::_) _ _);refine nU (y:= .agg L.toArray) rfl rfl rfl (sK L hLn V2) ?_;simp only[Act.put,zA,zB,zC])
        | ((with_reducible show wpList _ _ _ ({ dst:=some 74,op:=_,type:=_,pos:=_,after:=_,guard:=_ }::_) _ _);have bu:=(Below.refl V2.heap.size V2).alloc (Nat.le_refl _) (.cells L.toArray 45);have AU:=aH.new V2 L 45;replace S:=zH (S.out.bl bu);obtain⟨v',W2,hr,hown,hgr,hob⟩:=dG 23 45 8 Tryz.underlying23 zD zah _ (sb+2) 23 (Value.slice dq c.ds.length dc) c.ds.length _ S.out.cx.dr V2.heap.size L hLn (fun j u hu=>(AU j u hu).1) hL1 zac S.out.bs;obtain⟨q',c',rfl⟩:=aF hown;have A2x:=S.out.cx.at2.heap (hgr.block _ S.out.cx.at2.lt (fun e=>by have:=(S.out.cx.dr.lt _ e.symm).1;omega));rw[hLv.out] at hown;have S3:=zH (S.out.addD hown hgr hob zac);refine jF (v:=Value.slice dq c.ds.length dc) (y:= .slice (some ⟨V2.heap.size,0,none⟩) 1 1) _ _ rfl rfl rfl rfl hr ?_;simp only[Act.put,zA,zB,zC];clear bu AU hr hown hgr hob c0 c1 c2 c3 c4 f0 f1 f2 f3 f4 d0 d1 df0 df1;obtain⟨d0,d1,df0,df1⟩:=A2x)
        | ((with_reducible show wpList _ _ _ ({ dst:=some 110,op:=_,type:=_,pos:=_,after:=_,guard:=_ }::_) _ _);clear MARK2 d0 d1 df0 df1;replace S:=S3;clear S3;generalize W2.setCell ⟨sb+1,0,none⟩ (.slice q' (c.ds.length+1) c')=V3 at *;obtain⟨c0,c1,c2,c3,c4,f0,f1,f2,f3,f4⟩:=S.out.A))
       go_roundg (n-k')
       case measure=>omega
       case rel=>exact⟨k',gx,O,_,_,_,⟨c.ds++[d],c.rs,c.es⟩,Nat.le_refl _,S,HG⟩
     | er e1 q1 m1 =>
      have KF:=zH (fun w hS=>jK (p:=q) (b:=b) (off:=0) (cap:=cap) (n:=n) (En:=En) hT ⟨k,0,O⟩ S.out.kn w hS)
      obtain⟨z1,z2⟩:=nW (ts:=ts) (En:=En) (k:=k) (O:=O) hx
      rw[z1,z2] at KF
      have hi:item M0 (ts.drop k) = .er e1 q1 m1:=by rw[kv hf,hx];rfl
      obtain⟨he0,k',hk',hkk,hkn',hdr,hsk⟩:=Ep hi zac
      have HG:Hid (gof M0 (skip (ts.drop k')) (c.err e1 q1)=F):=by
       show _=_
       rw[<-HF.out,nG (fun e=> zcg) zac hi,hdr]
      rw[hk'] at KF
      have eE1:(e1==0)=false:=by simpa using he0
      have eE2:(e1 != 0)=true:=by simpa using he0
      obtain⟨O1,hO1⟩:∃x,x=ag ts En q1:=⟨_,rfl⟩
      simp only at KF
      rw[<-hO1] at KF
      have HO1:=zH hO1
      clear z1 z2 hi hx hdr hk' he0 hO1 HF
      go_wp2_with fail
      refine(KF.out _ S.out.tk).mono ?_
      rintro _ v3 ⟨L,hLn,hL1,rfl,hv,hb⟩
      clear hv
      replace S:=zH (S.out.bl hb)
      clear hb KF c0 c1 c2 c3 c4 f0 f1 f2 f3 f4 d0 d1 df0 df1
      have hsb:sb+2<=v3.heap.size:=S.out.bs
      have MARK:True:=trivial
      have MARK2:True:=trivial
      go_wp2_with (first
       | ((with_reducible show wpList _ _ _ ({ dst:=some 12,op:=_,type:=_,pos:=_,after:=_,guard:=_ }::_) _ _);refine iW (T:=45) (S:=62) (n:=8) (m:=5) (Z:=[.string ⟨#[]⟩,.bool false,zI zL 0,zI zL 0,zI zL 0,zI zL 0,zI zL 0,zI zL 0]) (Y:=[.slice none 0 0,zI zL 0,zI zL 0,zI zL 0,zI zL 0]) (L:=L) (M:=[.slice q n cap,zI zL (k':Nat),zI zL (En:Nat),zI zL e1,zI zL O1]) rfl rfl rfl rfl rfl rfl rfl rfl iV gy zab zab rfl rfl hLn rfl hL1 zbj zah rfl rfl rfl rfl ?_;intro V1 hb hsz HD0 HT;replace S:=zH (S.out.bl hb);have HD:=zH HD0;simp only[Act.put,zA,zB,zC];clear hb HD0;obtain⟨y0,z0⟩:=HT 0 _ rfl;obtain⟨y1,z1⟩:=HT 1 _ rfl;obtain⟨y2,z2⟩:=HT 2 _ rfl;obtain⟨y3,z3⟩:=HT 3 _ rfl;obtain⟨y4,z4⟩:=HT 4 _ rfl;clear HT;obtain⟨c0,c1,c2,c3,c4,f0,f1,f2,f3,f4⟩:=S.out.A)
       | ((with_reducible show wpList _ _ _ ({ dst:=some 54,op:=_,type:=_,pos:=_,after:=_,guard:=_ }::_) _ _);clear MARK;have hk:=Kept.set5 (Kept.refl sb V1) (.slice q n cap) (zI zL (k':Nat)) (zI zL (En:Nat)) (zI zL e1) (zI zL O1);replace HD:=zH (HD.out.call zac hk zac);replace S:=zH (S.out.st k' e1 O1 zac);clear hk y0 y1 y2 y3 y4 z0 z1 z2 z3 z4 c0 c1 c2 c3 c4 f0 f1 f2 f3 f4 hsz;generalize (((((V1.setCell ⟨sb,0,none⟩ (.slice q n cap)).setCell ⟨sb,1,none⟩ (zI zL (k':Nat))).setCell ⟨sb,2,none⟩ (zI zL (En:Nat))).setCell ⟨sb,3,none⟩ (zI zL e1)).setCell ⟨sb,4,none⟩ (zI zL O1))=V2 at *;obtain⟨c0,c1,c2,c3,c4,f0,f1,f2,f3,f4⟩:=S.out.A;obtain⟨d0,d1,df0,df1⟩:=S.out.cx.at2)
       | ((with_reducible show wpList _ _ _ ({ dst:=some 120,op:=_,type:=_,pos:=_,after:=_,guard:=_ }::_) _ _);have bu:=(Below.refl V2.heap.size V2).alloc (Nat.le_refl _) (.cells #[zI zL O1,zI zL e1] 53);have AU:=At2.new V2 (zI zL O1) (zI zL e1) 53;replace S:=zH (S.out.bl bu);obtain⟨vg',W2,hr,hown,hgr,hob⟩:=dG 27 53 2 Tryz.underlying27 nR zah _ (sb+2) 27 (Value.slice gq c.es.length gc) c.es.length _ S.out.rg V2.heap.size (gV (ag ts En) (e1,q1)) rfl (fZ HO1.out AU) (by simp[gV,Value.oneCell']) zac S.out.bs;obtain⟨gx',hS3⟩:=S.out.app hgr hown hob zac;obtain⟨gq',gc',rfl⟩:=aF hown;refine jF (v:= .slice gq c.es.length gc) (y:= .slice (some ⟨V2.heap.size,0,none⟩) 1 1) _ _ rfl rfl rfl rfl hr ?_;replace S:=zH hS3;simp only[Act.put,zA,zB,zC];clear bu AU hr hown hgr hob hS3 c0 c1 c2 c3 c4 f0 f1 f2 f3 f4 d0 d1 df0 df1;obtain⟨c0,c1,c2,c3,c4,f0,f1,f2,f3,f4⟩:=S.out.A;obtain⟨d0,d1,df0,df1⟩:=S.out.cx.at2))
      exact zz49
    | false =>
     rw[hf] at KI
     go_wp2_with fail
     refine(KI.out _ S.out.tk).mono ?_
     rintro _ v2 ⟨rfl,hb⟩
     replace S:=zH (S.out.bl hb)
     clear hb KI c0 c1 c2 c3 c4 f0 f1 f2 f3 f4 d0 d1 df0 df1
     obtain⟨c0,c1,c2,c3,c4,f0,f1,f2,f3,f4⟩:=S.out.A
     obtain⟨d0,d1,df0,df1⟩:=S.out.cx.at2
     cases hx:dE (ts.drop k) with
     | ok d r =>
      by_cases h12:c.rs.length=100
      ·have KF:=zH (fun w hS=>j4 (p:=q) (b:=b) (off:=0) (cap:=cap) (n:=n) (En:=En) hT ⟨k,0,O⟩ S.out.kn w hS)
       obtain⟨z1,z2⟩:=gZ (ts:=ts) (En:=En) (k:=k) (O:=O) hx
       rw[z1,z2] at KF
       have hi:item M0 (ts.drop k) = .ok (.rule d) r:=by rw[kF hf,hx];rfl
       obtain⟨k',hk',hr',hkk,hkn'⟩:=yO hi zac
       have HG:Hid (gof M0 (ts.drop k') (c.err 2 (n-k))=F):=by
        show _=_
        rw[<-HF.out,kH zac hi,<-hr',List.length_drop,hl]
        unfold By.add By.err
        simp only
        rw[if_pos zac]
       rw[hk'] at KF
       simp only at KF
       clear z1 z2 hi hx hr' hk' HF
       have e12:((c.rs.length:Int)==100)=true:=zai
       go_wp2_with fail
       refine(KF.out _ S.out.tk).mono ?_
       rintro _ v3 ⟨L,hLn,hL1,rfl,hv,hb⟩
       clear hv
       replace S:=zH (S.out.bl hb)
       clear hb KF c0 c1 c2 c3 c4 f0 f1 f2 f3 f4 d0 d1 df0 df1
       have hsb:sb+2<=v3.heap.size:=S.out.bs
       have MARK:True:=trivial
       have MARK2:True:=trivial
       go_wp2_with (first
        | ((with_reducible show wpList _ _ _ ({ dst:=some 14,op:=_,type:=_,pos:=_,after:=_,guard:=_ }::_) _ _);refine iW (T:=49) (S:=62) (n:=28) (m:=5) (Z:=qo) (Y:=[.slice none 0 0,zI zL 0,zI zL 0,zI zL 0,zI zL 0]) (L:=L) (M:=[.slice q n cap,zI zL (k':Nat),zI zL (En:Nat),zI zL 0,zI zL O]) rfl rfl rfl rfl rfl rfl rfl rfl gP gy zab zab rfl rfl hLn rfl hL1 zbj zah rfl rfl rfl rfl ?_;intro V1 hb hsz HD0 HT;replace S:=zH (S.out.bl hb);have HD:=zH HD0;simp only[Act.put,zA,zB,zC];clear hb HD0;obtain⟨y0,z0⟩:=HT 0 _ rfl;obtain⟨y1,z1⟩:=HT 1 _ rfl;obtain⟨y2,z2⟩:=HT 2 _ rfl;obtain⟨y3,z3⟩:=HT 3 _ rfl;obtain⟨y4,z4⟩:=HT 4 _ rfl;clear HT;obtain⟨c0,c1,c2,c3,c4,f0,f1,f2,f3,f4⟩:=S.out.A)
        | ((with_reducible show wpList _ _ _ ({ dst:=some 82,op:=_,type:=_,pos:=_,after:=_,guard:=_ }::_) _ _);clear MARK;have hk:=Kept.set5 (Kept.refl sb V1) (.slice q n cap) (zI zL (k':Nat)) (zI zL (En:Nat)) (zI zL 0) (zI zL O);replace HD:=zH (HD.out.call zac hk zac);replace S:=zH (S.out.st k' 0 O zac);clear hk y0 y1 y2 y3 y4 z0 z1 z2 z3 z4 c0 c1 c2 c3 c4 f0 f1 f2 f3 f4 hsz;generalize (((((V1.setCell ⟨sb,0,none⟩ (.slice q n cap)).setCell ⟨sb,1,none⟩ (zI zL (k':Nat))).setCell ⟨sb,2,none⟩ (zI zL (En:Nat))).setCell ⟨sb,3,none⟩ (zI zL 0)).setCell ⟨sb,4,none⟩ (zI zL O))=V2 at *;obtain⟨c0,c1,c2,c3,c4,f0,f1,f2,f3,f4⟩:=S.out.A;obtain⟨d0,d1,df0,df1⟩:=S.out.cx.at2)
        | ((with_reducible show wpList _ _ _ ({ dst:=some 109,op:=_,type:=_,pos:=_,after:=_,guard:=_ }::_) _ _);have bu:=(Below.refl V2.heap.size V2).alloc (Nat.le_refl _) (.cells #[zI zL at0,zI zL 2] 53);have AU:=At2.new V2 (zI zL at0) (zI zL 2) 53;replace S:=zH (S.out.bl bu);obtain⟨vg',W2,hr,hown,hgr,hob⟩:=dG 27 53 2 Tryz.underlying27 nR zah _ (sb+2) 27 (Value.slice gq c.es.length gc) c.es.length _ S.out.rg V2.heap.size (gV (ag ts En) (2,n-k)) rfl (fZ HAT.out AU) (by simp[gV,Value.oneCell']) zac S.out.bs;obtain⟨gx',hS3⟩:=S.out.app hgr hown hob zac;obtain⟨gq',gc',rfl⟩:=aF hown;refine jF (v:= .slice gq c.es.length gc) (y:= .slice (some ⟨V2.heap.size,0,none⟩) 1 1) _ _ rfl rfl rfl rfl hr ?_;replace S:=zH hS3;simp only[Act.put,zA,zB,zC];clear bu AU hr hown hgr hob hS3 c0 c1 c2 c3 c4 f0 f1 f2 f3 f4 d0 d1 df0 df1;obtain⟨c0,c1,c2,c3,c4,f0,f1,f2,f3,f4⟩:=S.out.A;obtain⟨d0,d1,df0,df1⟩:=S.out.cx.at2))
       go_roundg (n-k')
       case measure=>omega
       case rel=>exact⟨k',gx',O,_,_,_,_,Nat.le_refl _,S,HG⟩
      ·have KF:=zH (fun w hS=>j4 (p:=q) (b:=b) (off:=0) (cap:=cap) (n:=n) (En:=En) hT ⟨k,0,O⟩ S.out.kn w hS)
       obtain⟨z1,z2⟩:=gZ (ts:=ts) (En:=En) (k:=k) (O:=O) hx
       rw[z1,z2] at KF
       have hi:item M0 (ts.drop k) = .ok (.rule d) r:=by rw[kF hf,hx];rfl
       obtain⟨k',hk',hr',hkk,hkn'⟩:=yO hi zac
       have HG:Hid (gof M0 (ts.drop k') ⟨c.ds,c.rs++[d],c.es⟩=F):=by
        show _=_
        rw[<-HF.out,kH zac hi,<-hr']
        unfold By.add
        simp only
        rw[if_neg zac]
       rw[hk'] at KF
       simp only at KF
       clear z1 z2 hi hx hr' hk' HF
       have e12:((c.rs.length:Int)==100)=false:=zai
       go_wp2_with fail
       refine(KF.out _ S.out.tk).mono ?_
       rintro _ v3 ⟨L,hLn,hL1,rfl,hv,hb⟩
       obtain⟨x,y,hLv,hNx,hNy⟩:=hv d rfl
       replace hLv:=zH hLv
       have toN:∀(t:Tree) (z:NV),NodeA v3 (fun j=>v2.heap.size<=j) (ag ts En) t z->NodeA v3 (NBl (sb+2) gx (.slice dq c.ds.length dc) (.slice rq c.rs.length rc)) (ag ts En) t z:=fun t z hz =>
        NodeA.keep (Nat.le_refl _) (fun _ _ _=>rfl) (fun j (hj:v2.heap.size<=j) _=>⟨by have:=S.out.bs;omega,(fun e=>by have:=(S.out.cx.dr.lt j e).2;omega),(fun e=>by have:=(S.out.cx.rr.lt j e).2;omega),(by have:=S.out.gl;omega)⟩) _ _ hz
       have NX:=zH (toN _ _ hNx)
       have NY:=zH (toN _ _ hNy)
       clear toN hNx hNy
       clear hv
       replace S:=zH (S.out.bl hb)
       clear hb KF c0 c1 c2 c3 c4 f0 f1 f2 f3 f4 d0 d1 df0 df1
       have hsb:sb+2<=v3.heap.size:=S.out.bs
       have MARK:True:=trivial
       have MARK2:True:=trivial
       go_wp2_with (first
        | ((with_reducible show wpList _ _ _ ({ dst:=some 14,op:=_,type:=_,pos:=_,after:=_,guard:=_ }::_) _ _);refine iW (T:=49) (S:=62) (n:=28) (m:=5) (Z:=qo) (Y:=[.slice none 0 0,zI zL 0,zI zL 0,zI zL 0,zI zL 0]) (L:=L) (M:=[.slice q n cap,zI zL (k':Nat),zI zL (En:Nat),zI zL 0,zI zL O]) rfl rfl rfl rfl rfl rfl rfl rfl gP gy zab zab rfl rfl hLn rfl hL1 zbj zah rfl rfl rfl rfl ?_;intro V1 hb hsz HD0 HT;replace S:=zH (S.out.bl hb);replace NX:=zH (NodeA.bel hb _ _ NX.out);replace NY:=zH (NodeA.bel hb _ _ NY.out);have HD:=zH HD0;simp only[Act.put,zA,zB,zC];clear hb HD0;obtain⟨y0,z0⟩:=HT 0 _ rfl;obtain⟨y1,z1⟩:=HT 1 _ rfl;obtain⟨y2,z2⟩:=HT 2 _ rfl;obtain⟨y3,z3⟩:=HT 3 _ rfl;obtain⟨y4,z4⟩:=HT 4 _ rfl;clear HT;obtain⟨c0,c1,c2,c3,c4,f0,f1,f2,f3,f4⟩:=S.out.A)
        | ((with_reducible show wpList _ _ _ ({ dst:=some 82,op:=_,type:=_,pos:=_,after:=_,guard:=_ }::_) _ _);clear MARK;have hk:=Kept.set5 (Kept.refl sb V1) (.slice q n cap) (zI zL (k':Nat)) (zI zL (En:Nat)) (zI zL 0) (zI zL O);replace HD:=zH (HD.out.call zac hk zac);replace NX:=zH (NodeA.keep hk.size (fun j hj hj2=>hk.block j hj2 (by have:=hj.1;omega)) (fun _ h _=>h) _ _ NX.out);replace NY:=zH (NodeA.keep hk.size (fun j hj hj2=>hk.block j hj2 (by have:=hj.1;omega)) (fun _ h _=>h) _ _ NY.out);replace S:=zH (S.out.st k' 0 O zac);clear hk y0 y1 y2 y3 y4 z0 z1 z2 z3 z4 c0 c1 c2 c3 c4 f0 f1 f2 f3 f4 hsz;generalize (((((V1.setCell ⟨sb,0,none⟩ (.slice q n cap)).setCell ⟨sb,1,none⟩ (zI zL (k':Nat))).setCell ⟨sb,2,none⟩ (zI zL (En:Nat))).setCell ⟨sb,3,none⟩ (zI zL 0)).setCell ⟨sb,4,none⟩ (zI zL O))=V2 at *;obtain⟨c0,c1,c2,c3,c4,f0,f1,f2,f3,f4⟩:=S.out.A;obtain⟨d0,d1,df0,df1⟩:=S.out.cx.at2)
        | ((with_reducible show wpList _ _ _ ({ dst:=some 100,op:=_,type:=_,pos:=_,after:=_,guard:=_ }::_) _ _);refine qy rfl rfl rfl (aS 49 28 zab zab V2 v3.heap.size L hLn (fun j u hu=>(HD.out j u hu).1)) ?_;simp only[Act.put,zA,zB,zC])
        | ((with_reducible show wpList _ _ _ ({ dst:=some 101,op:=_,type:=_,pos:=_,after:=_,guard:=_ }::_) _ _);refine nU (y:= .agg L.toArray) rfl rfl rfl (pF L hLn V2) ?_;simp only[Act.put,zA,zB,zC])
        | ((with_reducible show wpList _ _ _ ({ dst:=some 102,op:=_,type:=_,pos:=_,after:=_,guard:=_ }::_) _ _);have bu:=(Below.refl V2.heap.size V2).alloc (Nat.le_refl _) (.cells L.toArray 49);have AU:=aH.new V2 L 49;replace S:=zH (S.out.bl bu);replace NX:=zH (NodeA.bel bu _ _ NX.out);replace NY:=zH (NodeA.bel bu _ _ NY.out);obtain⟨v',W2,hr,hown,hgr,hob⟩:=dG 24 49 28 Tryz.underlying24 zR zah _ (sb+2) 24 (Value.slice rq c.rs.length rc) c.rs.length _ S.out.cx.rr V2.heap.size L hLn (fun j u hu=>(AU j u hu).1) hL1 zac S.out.bs;obtain⟨q',c',rfl⟩:=aF hown;have A2x:=S.out.cx.at2.heap (hgr.block _ S.out.cx.at2.lt (fun e=>by have:=(S.out.cx.rr.lt _ e.symm).1;omega));rw[hLv.out] at hown;have S3:=zH (S.out.addR hown hgr hob zac NX.out NY.out);refine jF (v:=Value.slice rq c.rs.length rc) (y:= .slice (some ⟨V2.heap.size,0,none⟩) 1 1) _ _ rfl rfl rfl rfl hr ?_;simp only[Act.put,zA,zB,zC];clear bu AU hr hown hgr hob c0 c1 c2 c3 c4 f0 f1 f2 f3 f4 d0 d1 df0 df1;obtain⟨d0,d1,df0,df1⟩:=A2x)
        | ((with_reducible show wpList _ _ _ ({ dst:=some 110,op:=_,type:=_,pos:=_,after:=_,guard:=_ }::_) _ _);clear MARK2 d0 d1 df0 df1;replace S:=S3;clear S3;generalize W2.setCell ⟨sb+1,1,none⟩ (.slice q' (c.rs.length+1) c')=V3 at *;obtain⟨c0,c1,c2,c3,c4,f0,f1,f2,f3,f4⟩:=S.out.A))
       go_roundg (n-k')
       case measure=>omega
       case rel=>exact⟨k',gx,O,_,_,_,⟨c.ds,c.rs++[d],c.es⟩,Nat.le_refl _,S,HG⟩
     | er e1 q1 m1 =>
      have KF:=zH (fun w hS=>j4 (p:=q) (b:=b) (off:=0) (cap:=cap) (n:=n) (En:=En) hT ⟨k,0,O⟩ S.out.kn w hS)
      obtain⟨z1,z2⟩:=nW (ts:=ts) (En:=En) (k:=k) (O:=O) hx
      rw[z1,z2] at KF
      have hi:item M0 (ts.drop k) = .er e1 q1 m1:=by rw[kF hf,hx];rfl
      obtain⟨he0,k',hk',hkk,hkn',hdr,hsk⟩:=Ep hi zac
      have HG:Hid (gof M0 (skip (ts.drop k')) (c.err e1 q1)=F):=by
       show _=_
       rw[<-HF.out,nG (fun e=> zcg) zac hi,hdr]
      rw[hk'] at KF
      have eE1:(e1==0)=false:=by simpa using he0
      have eE2:(e1 != 0)=true:=by simpa using he0
      obtain⟨O1,hO1⟩:∃x,x=ag ts En q1:=⟨_,rfl⟩
      simp only at KF
      rw[<-hO1] at KF
      have HO1:=zH hO1
      clear z1 z2 hi hx hdr hk' he0 hO1 HF
      go_wp2_with fail
      refine(KF.out _ S.out.tk).mono ?_
      rintro _ v3 ⟨L,hLn,hL1,rfl,hv,hb⟩
      clear hv
      replace S:=zH (S.out.bl hb)
      clear hb KF c0 c1 c2 c3 c4 f0 f1 f2 f3 f4 d0 d1 df0 df1
      have hsb:sb+2<=v3.heap.size:=S.out.bs
      have MARK:True:=trivial
      have MARK2:True:=trivial
      go_wp2_with (first
       | ((with_reducible show wpList _ _ _ ({ dst:=some 14,op:=_,type:=_,pos:=_,after:=_,guard:=_ }::_) _ _);refine iW (T:=49) (S:=62) (n:=28) (m:=5) (Z:=qo) (Y:=[.slice none 0 0,zI zL 0,zI zL 0,zI zL 0,zI zL 0]) (L:=L) (M:=[.slice q n cap,zI zL (k':Nat),zI zL (En:Nat),zI zL e1,zI zL O1]) rfl rfl rfl rfl rfl rfl rfl rfl gP gy zab zab rfl rfl hLn rfl hL1 zbj zah rfl rfl rfl rfl ?_;intro V1 hb hsz HD0 HT;replace S:=zH (S.out.bl hb);have HD:=zH HD0;simp only[Act.put,zA,zB,zC];clear hb HD0;obtain⟨y0,z0⟩:=HT 0 _ rfl;obtain⟨y1,z1⟩:=HT 1 _ rfl;obtain⟨y2,z2⟩:=HT 2 _ rfl;obtain⟨y3,z3⟩:=HT 3 _ rfl;obtain⟨y4,z4⟩:=HT 4 _ rfl;clear HT;obtain⟨c0,c1,c2,c3,c4,f0,f1,f2,f3,f4⟩:=S.out.A)
       | ((with_reducible show wpList _ _ _ ({ dst:=some 82,op:=_,type:=_,pos:=_,after:=_,guard:=_ }::_) _ _);clear MARK;have hk:=Kept.set5 (Kept.refl sb V1) (.slice q n cap) (zI zL (k':Nat)) (zI zL (En:Nat)) (zI zL e1) (zI zL O1);replace HD:=zH (HD.out.call zac hk zac);replace S:=zH (S.out.st k' e1 O1 zac);clear hk y0 y1 y2 y3 y4 z0 z1 z2 z3 z4 c0 c1 c2 c3 c4 f0 f1 f2 f3 f4 hsz;generalize (((((V1.setCell ⟨sb,0,none⟩ (.slice q n cap)).setCell ⟨sb,1,none⟩ (zI zL (k':Nat))).setCell ⟨sb,2,none⟩ (zI zL (En:Nat))).setCell ⟨sb,3,none⟩ (zI zL e1)).setCell ⟨sb,4,none⟩ (zI zL O1))=V2 at *;obtain⟨c0,c1,c2,c3,c4,f0,f1,f2,f3,f4⟩:=S.out.A;obtain⟨d0,d1,df0,df1⟩:=S.out.cx.at2)
       | ((with_reducible show wpList _ _ _ ({ dst:=some 120,op:=_,type:=_,pos:=_,after:=_,guard:=_ }::_) _ _);have bu:=(Below.refl V2.heap.size V2).alloc (Nat.le_refl _) (.cells #[zI zL O1,zI zL e1] 53);have AU:=At2.new V2 (zI zL O1) (zI zL e1) 53;replace S:=zH (S.out.bl bu);obtain⟨vg',W2,hr,hown,hgr,hob⟩:=dG 27 53 2 Tryz.underlying27 nR zah _ (sb+2) 27 (Value.slice gq c.es.length gc) c.es.length _ S.out.rg V2.heap.size (gV (ag ts En) (e1,q1)) rfl (fZ HO1.out AU) (by simp[gV,Value.oneCell']) zac S.out.bs;obtain⟨gx',hS3⟩:=S.out.app hgr hown hob zac;obtain⟨gq',gc',rfl⟩:=aF hown;refine jF (v:= .slice gq c.es.length gc) (y:= .slice (some ⟨V2.heap.size,0,none⟩) 1 1) _ _ rfl rfl rfl rfl hr ?_;replace S:=zH hS3;simp only[Act.put,zA,zB,zC];clear bu AU hr hown hgr hob hS3 c0 c1 c2 c3 c4 f0 f1 f2 f3 f4 d0 d1 df0 df1;obtain⟨c0,c1,c2,c3,c4,f0,f1,f2,f3,f4⟩:=S.out.A;obtain⟨d0,d1,df0,df1⟩:=S.out.cx.at2))
      exact zz49
theorem tF (s:ByteArray)(hs:s.size<=281474976710656)(w:World):Calls Tryz.prog 6 #[.string s] w fun e w'=>EG w s.data.toList e w':=by
 cases h:lex Vh s.data.toList with
 | ok ts=>exact BU s hs ts h w
 | er E a=>exact Cj s hs E a h w
end Go.Proofs.YtnjfolljbfkojaaGreatDoor
