import Derived.Test.YtnjfolljbfkojaaGreatDoorMBG
import Derived.Test.YtnjfolljbfkojaaGreatDoorMBI
set_option maxRecDepth 100000
set_option maxHeartbeats 20000000
namespace Go.Proofs.YtnjfolljbfkojaaGreatDoor
open Go.Value renaming int→zI
open Go.IntKind renaming i64→zL
open Go.Lib renaming hid→zH
open Go.RowKit Lx Pa
section
variable {b cap qb En mb base cb gx:Nat} {p:Option Addr} {ts:List Tok} {ds:List Decl} {rs:List Rule} {vd vr:Value} {ns:List (NV×NV)}
theorem dW.pre {w0 w1 w':World}{D:Pa.Item->List Decl}{R:Pa.Item->List Rule}{o:Out Pa.Item}{e:Ending}(hk:Kept b w0 w1)(h:dW w1 b p cap qb ts En mb base cb gx vd vr D R o e w'):dW w0 b p cap qb ts En mb base cb gx vd vr D R o e w':=by
 unfold dW at h |-
 cases o with
 | ok d r =>
  obtain⟨k',vd',vr',ns',h1,h2,h3,h4,h5,h6,h7⟩:=h
  exact⟨k',vd',vr',ns',h1,h2,h3,h4,⟨h5.os.trans hk.os,h5.tape.trans hk.tape,h5.output.trans hk.output,Nat.le_trans hk.size h5.size,fun j hj hj2=>(h5.block j (Nat.lt_of_lt_of_le hj hk.size) hj2).trans (hk.block j hj (fun e=>hj2 (.inl e)))⟩,
   h6.imp id (fun ⟨j,a,c⟩=>⟨j,a,Nat.le_trans hk.size c⟩),h7.imp id (fun ⟨j,a,c⟩=>⟨j,a,Nat.le_trans hk.size c⟩)⟩
 | er E q m =>
  obtain⟨k',h1,h2,h3,h4⟩:=h
  exact⟨k',h1,hk.trans h2,h3,h4⟩
theorem Bf {x:List UInt8}(h:idx kinds x=none):pG x=0:=by unfold pG;rw[h];rfl
theorem xC {x:List UInt8}{i:Nat}(h:idx kinds x=some i):pG x=((i+1:Nat):Int):=by unfold pG;rw[h];rfl
theorem zg (fd fr:Bool)(k:Nat)(w:World)(h:Rd w b p cap qb ts En mb k)(hC:Cx w base cb gx (ag ts En) ds rs vd vr ns)(hfd:((ds.length:Int)==12)=fd)(hfr:((rs.length:Int)==100)=fr)(hbb:b<base/\b≠cb/\mb<base/\mb≠cb/\(0<ts.length->qb<base/\qb≠cb)/\base<=w.heap.size)(hgx:gx<w.heap.size)(hdl:ds.length<=1000)(hrl:rs.length<=1000) :
  Calls Tryz.prog 36 #[.pointer (some ⟨b,0,none⟩),.pointer (some ⟨cb,0,none⟩)] w fun e w'=>dW w b p cap qb ts En mb base cb gx vd vr (wI ds) (wo rs) (kQ fd fr (ts.drop k)) e w':=by
 have KP:=zH (aC w h)
 have HWF:Hid (isW dU (ts.drop k)=((pk ts En k).t==dU)):=qF h.ok zah
 have HWK:Hid (which kinds (ts.drop k)=idx kinds (pk ts En k).t):=by show _=_;unfold which;rw[eZ (En:=En) h.ok kinds 0 zah];simp
 have HL:Hid ((pk ts En k).t≠[]->k<ts.length):=uQ
 have HAO:Hid ((pk ts En k).a=ag ts En (ts.length-k)):=bF h.kl
 have S0:=zH (Sx.start h)
 have hk1:=dB h.kl h.tk.max
 have hlen:(ts.drop k).length=ts.length-k:=List.length_drop
 have hcbl:=hC.lt
 have HCk:=zH (fun (v:World) (hs:w.heap.size<=v.heap.size) (hk:∀j,j<w.heap.size->j≠b->v.heap[j]? = w.heap[j]?)=>hC.keep (w':=v) hs (fun j hj hj2=>hk j hj zce))
 generalize hO:kQ fd fr (ts.drop k)=O
 unfold kQ at hO
 rw[HWF.out,HWK.out,hlen,List.tail_drop] at hO
 have HO:=zH hO
 clear hO hlen h hC
 generalize pk ts En k=t at *
 obtain⟨tk,ta,tt,tn,td⟩:=t
 unfold fI at KP
 simp only at HL HO HAO
 have fld:=dh
 obtain⟨kd,hkd⟩:∃z,z=pG tt:=⟨_,rfl⟩
 have KK:=zH (fun w=>rM tt w)
 rw[<-hkd] at KK
 have HKD:=zH hkd
 clear hkd
 have HBX:=zH (fun (v:World)=>B5.new v (zI zL tk) (zI zL ta) (.string (bs tt)) (zI zL tn) (zI zL td) 86)
 by_cases hx:tt=dU
 ·have hl:=HL.out (by rw[hx];decide)
  have hkd0:kd=0:=by rw[HKD.out,hx];rfl
  subst hkd0
  have e1:((bs tt).toList==[102,97,99,116])=true:=by rw[aM,hx];rfl
  have HO2:=HO.out
  rw[show(tt==dU)=true by rw[hx];rfl,if_pos rfl] at HO2
  have KX:=zH (fun v hv1 hv2 hv3=>yj (p:=p) (cap:=cap) (qb:=qb) (En:=En) (mb:=mb) (b:=b) (base:=base) (cb:=cb) (gx:=gx) (ts:=ts) (vd:=vd) (vr:=vr) (rs:=rs) (ns:=ns) fd (ts.length-k) (k+1) v hv1 hv2 hfd hv3 hdl)
  rw[HO2,<-HAO.out] at KX
  clear HO HO2 HL HKD hx HWF HWK
  go_enter Tryz.func36,Tryz.ntmps36
  go_wp2_with fail
  refine KP.out.mono ?_
  rintro _ v ⟨rfl,hb⟩
  have S1:=zH ((S0.out.bel hb).alloc (.cells #[zI zL tk,zI zL ta,.string (bs tt),zI zL tn,zI zL td] 86))
  have X1:=zH (HBX.out v)
  have hv:=hb.size
  have hv1:(v.alloc (.cells #[zI zL tk,zI zL ta,.string (bs tt),zI zL tn,zI zL td] 86)).heap.size=v.heap.size+1:=by simp
  have hbl:=S0.out.bl
  have NB1:v.heap.size≠b:=zac
  clear hb KP S0 HBX
  obtain⟨x0,x1,x2,x3,x4,-,-,-,-,-⟩:=X1.out
  go_wp2_with fail
  clear x0 x1 x2 x3 x4
  change Calls _ _ _ (v.alloc (.cells #[zI zL tk,zI zL ta,.string (bs tt),zI zL tn,zI zL td] 86)) _
  generalize v.alloc (.cells #[zI zL tk,zI zL ta,.string (bs tt),zI zL tn,zI zL td] 86)=V1 at *
  refine(KK.out _).mono ?_
  rintro _ v1 ⟨rfl,rfl⟩
  obtain⟨x0,x1,x2,x3,x4,-,-,-,-,-⟩:=X1.out
  obtain⟨-,c1,-,-,f1,-,-,-,-,-,-⟩:=S1.out.rd
  go_wp2_with fail
  clear x0 x1 x2 x3 x4 c1 f1
  have S2:Hid (Sx w (v1.setCell ⟨b,1,none⟩ (zI zL ((k:Int)+1))) b p cap qb ts En mb (k+1)):=S1.out.next (k':=k+1) hl
  have hv2:(v1.setCell ⟨b,1,none⟩ (zI zL ((k:Int)+1))).heap.size=v1.heap.size:=zbb
  clear S1 X1
  generalize v1.setCell ⟨b,1,none⟩ (zI zL ((k:Int)+1))=V2 at *
  have HC2:=zH (HCk.out V2 zac (fun j hj hj2=>S2.out.kp.block j hj hj2))
  refine(KX.out V2 S2.out.rd HC2.out ⟨hbb.1,hbb.2.1,hbb.2.2.1,hbb.2.2.2.1,hbb.2.2.2.2.1,zac⟩).mono ?_
  exact zz83
 ·have e1:((bs tt).toList==[102,97,99,116])=false:=by rw[aM];simpa[dU] using hx
  have HO2:=HO.out
  rw[show(tt==dU)=false by simpa using hx,if_neg (by simp)] at HO2
  cases hi:idx kinds tt with
  | none =>
   have hkd0:kd=0:=by rw[HKD.out];exact Bf hi
   subst hkd0
   rw[hi] at HO2
   have HOB:=zH HO2
   clear HO HO2 HL HKD hx HWF HWK hi
   go_enter Tryz.func36,Tryz.ntmps36
   go_wp2_with fail
   refine KP.out.mono ?_
   rintro _ v ⟨rfl,hb⟩
   have S1:=zH ((S0.out.bel hb).alloc (.cells #[zI zL tk,zI zL ta,.string (bs tt),zI zL tn,zI zL td] 86))
   have X1:=zH (HBX.out v)
   have hv:=hb.size
   have hv1:(v.alloc (.cells #[zI zL tk,zI zL ta,.string (bs tt),zI zL tn,zI zL td] 86)).heap.size=v.heap.size+1:=by simp
   have hbl:=S0.out.bl
   have NB1:v.heap.size≠b:=zac
   clear hb KP S0 HBX
   obtain⟨x0,x1,x2,x3,x4,-,-,-,-,-⟩:=X1.out
   go_wp2_with fail
   clear x0 x1 x2 x3 x4
   change Calls _ _ _ (v.alloc (.cells #[zI zL tk,zI zL ta,.string (bs tt),zI zL tn,zI zL td] 86)) _
   generalize v.alloc (.cells #[zI zL tk,zI zL ta,.string (bs tt),zI zL tn,zI zL td] 86)=V1 at *
   refine(KK.out _).mono ?_
   rintro _ v1 ⟨rfl,rfl⟩
   obtain⟨x0,x1,x2,x3,x4,-,-,-,-,-⟩:=X1.out
   go_wp2_with fail
   refine(dI _ S1.out.rd).mono ?_
   rintro _ v2 ⟨rfl,hb⟩
   have S2:=zH (S1.out.bel hb)
   clear hb S1 X1 x0 x1 x2 x3 x4
   go_wp2_with fail
   exact aa rfl (dW.er (E:=10) (q:=ts.length-k) (m:=ts.length-k) (by rw[<-HOB.out];unfold Pa.bad;rw[List.length_drop]) rfl rfl S2.out)
  | some i =>
   have hl:=HL.out (by intro e0;rw[e0] at hi;exact absurd hi (by show idx kinds []≠_;rw[show idx kinds []=none by rfl];simp))
   have hkd1:kd=((i+1:Nat):Int):=by rw[HKD.out];exact xC hi
   have e2:(kd==0)=false:=by rw[hkd1];simp;omega
   rw[hi] at HO2
   simp only at HO2
   have KX:=zH (fun v hv1 hv2 hv3 hv4=>yL (p:=p) (cap:=cap) (qb:=qb) (En:=En) (mb:=mb) (b:=b) (base:=base) (cb:=cb) (gx:=gx) (ts:=ts) (vd:=vd) (vr:=vr) (ds:=ds) (ns:=ns) fr (ts.length-k) (k+1) (i+1) v hv1 hv2 hfr hv3 hv4 hrl)
   rw[HO2,<-HAO.out,<-hkd1] at KX
   clear HO HO2 HL HKD hx HWF HWK hi hkd1
   go_enter Tryz.func36,Tryz.ntmps36
   go_wp2_with fail
   refine KP.out.mono ?_
   rintro _ v ⟨rfl,hb⟩
   have S1:=zH ((S0.out.bel hb).alloc (.cells #[zI zL tk,zI zL ta,.string (bs tt),zI zL tn,zI zL td] 86))
   have X1:=zH (HBX.out v)
   have hv:=hb.size
   have hv1:(v.alloc (.cells #[zI zL tk,zI zL ta,.string (bs tt),zI zL tn,zI zL td] 86)).heap.size=v.heap.size+1:=by simp
   have hbl:=S0.out.bl
   have NB1:v.heap.size≠b:=zac
   clear hb KP S0 HBX
   obtain⟨x0,x1,x2,x3,x4,-,-,-,-,-⟩:=X1.out
   go_wp2_with fail
   clear x0 x1 x2 x3 x4
   change Calls _ _ _ (v.alloc (.cells #[zI zL tk,zI zL ta,.string (bs tt),zI zL tn,zI zL td] 86)) _
   generalize v.alloc (.cells #[zI zL tk,zI zL ta,.string (bs tt),zI zL tn,zI zL td] 86)=V1 at *
   refine(KK.out _).mono ?_
   rintro _ v1 ⟨rfl,rfl⟩
   obtain⟨x0,x1,x2,x3,x4,-,-,-,-,-⟩:=X1.out
   obtain⟨-,c1,-,-,f1,-,-,-,-,-,-⟩:=S1.out.rd
   go_wp2_with fail
   clear x0 x1 x2 x3 x4 c1 f1
   have S2:Hid (Sx w (v1.setCell ⟨b,1,none⟩ (zI zL ((k:Int)+1))) b p cap qb ts En mb (k+1)):=S1.out.next (k':=k+1) hl
   have hv2:(v1.setCell ⟨b,1,none⟩ (zI zL ((k:Int)+1))).heap.size=v1.heap.size:=zbb
   clear S1 X1
   generalize v1.setCell ⟨b,1,none⟩ (zI zL ((k:Int)+1))=V2 at *
   have HC2:=zH (HCk.out V2 zac (fun j hj hj2=>S2.out.kp.block j hj hj2))
   refine(KX.out V2 S2.out.rd HC2.out ⟨hbb.1,hbb.2.1,hbb.2.2.1,hbb.2.2.2.1,hbb.2.2.2.2.1,zac⟩ zac).mono ?_
   exact zz83
end
@[reducible] def aB:Value:= .slice none 0 0
theorem Ef (ofs:Nat->Int)(l:List (Int×Nat)):(l.flatMap (gV ofs)).length=l.length*2:=by
 induction l with
 | nil=>rfl
 | cons x l ih=>rw[List.flatMap_cons,List.length_append,ih];simp[gV];omega
structure BySt (w0 W:World) (b:Nat) (p:Option Addr) (cap qb:Nat) (ts:List Tok) (En mb k base rb cb res gx:Nat) (vd vr vg:Value) (ns:List (NV×NV)) (c:By):Prop where
 sx:Sx w0 W b p cap qb ts En mb k
 cx:Cx W base cb gx (ag ts En) c.ds c.rs vd vr ns
 rg:W.ownsRow base 53 2 vg c.es.length (c.es.flatMap (gV (ag ts En)))
 gb:∀j,vg.ownBlock=some j->j=gx
 gl:gx<W.heap.size
 gd:vd.ownBlock≠some gx
 gr:vr.ownBlock≠some gx
 rbx:W.cell? ⟨rb,0,none⟩=some (.pointer (some ⟨b,0,none⟩))
 rs:At2 W res aB aB
 dl:c.ds.length<=12
 rl:c.rs.length<=100
 el:c.es.length<=20
 n1:rb=w0.heap.size
 n2:res=w0.heap.size+1
 n3:cb=w0.heap.size+2
 n4:base=w0.heap.size+3
section
variable {w0 W V W1:World} {b cap qb En mb k base rb cb res gx:Nat} {p:Option Addr} {ts:List Tok} {vd vr vg:Value} {ns:List (NV×NV)} {c:By}
theorem BySt.bs (h:BySt w0 W b p cap qb ts En mb k base rb cb res gx vd vr vg ns c):base<=W.heap.size:=by
 have:=h.cx.at2.lt
 have:=h.n3
 have:=h.n4
 omega
theorem BySt.bb (h:BySt w0 W b p cap qb ts En mb k base rb cb res gx vd vr vg ns c):b<base/\b≠cb/\mb<base/\mb≠cb/\(0<ts.length->qb<base/\qb≠cb):=by
 have h1:=h.n3
 have h2:=h.n4
 have h3:=h.sx.bl
 have h4:=h.sx.ml
 exact⟨zac,zac,zac,zac,fun z=>by have:=h.sx.ql z;omega⟩
theorem BySt.keep {k':Nat}(h:BySt w0 W b p cap qb ts En mb k base rb cb res gx vd vr vg ns c)(hk:Kept b W V)(hr:Rd V b p cap qb ts En mb k'):BySt w0 V b p cap qb ts En mb k' base rb cb res gx vd vr vg ns c:=by
 have hn:=h.bb
 have h1:=h.n1
 have h2:=h.n2
 have h3:=h.n3
 have h4:=h.n4
 have hbl:=h.sx.bl
 exact⟨h.sx.call hk hr,h.cx.keep hk.size (fun j hj hj2=>hk.block j hj zce),aR h.rg (fun j hj hj2=>hk.block j hj2 (by have:=(h.rg.lt j hj).1;omega)),h.gb,Nat.lt_of_lt_of_le h.gl hk.size,h.gd,h.gr,
  (World.cell?_of_block (w:=W) (a:=⟨rb,0,none⟩) (hk.block rb (World.block_lt_of_cell? _ _ h.rbx) zac)).trans h.rbx,h.rs.heap (hk.block res h.rs.lt zac),h.dl,h.rl,h.el,h1,h2,h3,h4⟩
theorem BySt.bel (h:BySt w0 W b p cap qb ts En mb k base rb cb res gx vd vr vg ns c)(hB:RowKit.Below W.heap.size W V):BySt w0 V b p cap qb ts En mb k base rb cb res gx vd vr vg ns c:=h.keep (Kept.of hB) (h.sx.rd.bel hB)
theorem BySt.step {k':Nat}{vd' vr':Value}{ns':List (NV×NV)}{ds':List Decl}{rs':List Rule}(h:BySt w0 W b p cap qb ts En mb k base rb cb res gx vd vr vg ns c)(hB:RowKit.Below W.heap.size W W1)(hr:Rd V b p cap qb ts En mb k')(hc:Cx V base cb gx (ag ts En) ds' rs' vd' vr' ns')
  (hk:KeptS (fun j=>j=b\/j=cb\/vd.ownBlock=some j\/vr.ownBlock=some j) W1 V)(ho:vd'.ownBlock=vd.ownBlock\/∃j,vd'.ownBlock=some j/\W1.heap.size<=j)(ho':vr'.ownBlock=vr.ownBlock\/∃j,vr'.ownBlock=some j/\W1.heap.size<=j)(hd:ds'.length<=12)(hl:rs'.length<=100) :
  BySt w0 V b p cap qb ts En mb k' base rb cb res gx vd' vr' vg ns' ⟨ds',rs',c.es⟩:=by
 have h:=h.bel hB
 have hn:=h.bb
 have h1:=h.n1
 have h2:=h.n2
 have h3:=h.n3
 have h4:=h.n4
 have hbl:=h.sx.bl
 have hvd:∀j,vd.ownBlock=some j->base<=j:=fun j hj=>(h.cx.dr.lt j hj).1
 have hvr:∀j,vr.ownBlock=some j->base<=j:=fun j hj=>(h.cx.rr.lt j hj).1
 have hlow:∀j,j<base->j≠b->j≠cb->j<W1.heap.size->V.heap[j]? = W1.heap[j]?:=fun j a1 a2 a3 a4=>hk.block j a4 (by
  rintro(e|e|e|e)
  ·exact a2 e
  ·exact a3 e
  ·have:=hvd j e;omega
  ·have:=hvr j e;omega)
 have hgl:=h.gl
 refine⟨⟨⟨hk.os.trans h.sx.kp.os,hk.tape.trans h.sx.kp.tape,hk.output.trans h.sx.kp.output,Nat.le_trans h.sx.kp.size hk.size,fun j hj hj2=>?_⟩,hr,h.sx.bl,h.sx.ml,h.sx.ql⟩,hc,aR h.rg (fun j hj hj2=>hk.block j hj2 ?_),h.gb,Nat.lt_of_lt_of_le h.gl hk.size,?_,?_,
  (World.cell?_of_block (w:=W1) (a:=⟨rb,0,none⟩) (hlow rb zac zac zac (World.block_lt_of_cell? _ _ h.rbx))).trans h.rbx,h.rs.heap (hlow res zac zac zac h.rs.lt),hd,hl,h.el,h1,h2,h3,h4⟩
 ·have:=h.sx.kp.size
  exact(hlow j zac hj2 zac zac).trans (h.sx.kp.block j hj hj2)
 ·have e:=h.gb j hj
  have hb:=(h.rg.lt j hj).1
  rintro(e|e|e|e)
  ·omega
  ·omega
  ·exact h.gd (by rw[e];congr 1)
  ·exact h.gr (by rw[e];congr 1)
 ·rcases ho with e|⟨j,e,hj⟩
  ·rw[e];exact h.gd
  ·rw[e];intro e2;injection e2 with e2;omega
 ·rcases ho' with e|⟨j,e,hj⟩
  ·rw[e];exact h.gr
  ·rw[e];intro e2;injection e2 with e2;omega
theorem BySt.app {vg':Value}{E:Int}{q:Nat}(h:BySt w0 W b p cap qb ts En mb k base rb cb res gx vd vr vg ns c)(hg:W.grownBy V vg.ownBlock)(hown:V.ownsRow base 53 2 vg' (c.es.length+1) (c.es.flatMap (gV (ag ts En))++gV (ag ts En) (E,q)))(ho:vg'.ownBlock=vg.ownBlock\/vg'.ownBlock=some W.heap.size)(hl:c.es.length<20) :
  ∃gx',BySt w0 V b p cap qb ts En mb k base rb cb res gx' vd vr vg' ns (c.err E q):=by
 have hn:=h.bb
 have h1:=h.n1
 have h2:=h.n2
 have h3:=h.n3
 have h4:=h.n4
 have hbl:=h.sx.bl
 have hml:=h.sx.ml
 have hvg:∀j,vg.ownBlock=some j->base<=j:=fun j hj=>(h.rg.lt j hj).1
 have hlow:∀j,j<base->j<W.heap.size->V.heap[j]? = W.heap[j]?:=fun j a1 a2=>hg.block j a2 (fun e=>by have:=hvg j e.symm;omega)
 have hw:=h.sx.kp.size
 have hlt:=hown.lt
 have key:∀gx',(gx'=gx\/gx'=W.heap.size)->(∀j,vg'.ownBlock=some j->j=gx')->gx'<V.heap.size->vd.ownBlock≠some gx'->vr.ownBlock≠some gx'->BySt w0 V b p cap qb ts En mb k base rb cb res gx' vd vr vg' ns (c.err E q):=fun gx' hx hb hs hd hr =>
  ⟨⟨⟨hg.os.trans h.sx.kp.os,hg.tape.trans h.sx.kp.tape,hg.output.trans h.sx.kp.output,Nat.le_trans hw hg.size,fun j hj hj2=>(hlow j zac zac).trans (h.sx.kp.block j hj hj2)⟩,
   h.sx.rd.of hg.size (fun j hj hj2=>hlow j (by rcases hj2 with rfl|rfl|⟨z,rfl⟩;(· omega);(· omega);(· have:=h.sx.ql z;omega)) hj),h.sx.bl,h.sx.ml,h.sx.ql⟩,
   h.cx.app hg (fun j hj=>⟨h.gb j hj,hvg j hj⟩) h.gd h.gr hx,by
   show V.ownsRow base _ 2 vg' (c.es++[(E,q)]).length ((c.es++[(E,q)]).flatMap _)
   rw[List.length_append,List.flatMap_append];simpa using hown,hb,hs,hd,hr,
   (World.cell?_of_block (w:=W) (a:=⟨rb,0,none⟩) (hlow rb zac (World.block_lt_of_cell? _ _ h.rbx))).trans h.rbx,h.rs.heap (hlow res zac h.rs.lt),h.dl,h.rl,by show(c.es++[(E,q)]).length<=20;simp;omega,h1,h2,h3,h4⟩
 exact zz84
end
def ByV (w:World)(lo:Nat)(ofs:Nat->Int)(c:By)(vd vr vg:Value):Prop :=
 (c.es=[]->vg=aB/\w.ownsRow lo 45 8 vd c.ds.length (c.ds.flatMap (dV ofs))/\∃ns:List (NV×NV),ns.length=c.rs.length/\w.ownsRow lo 49 28 vr c.rs.length (rFlat ofs c.rs ns)/\∀(i:Nat) (h:i<c.rs.length) (h':i<ns.length),ah w lo ofs c.rs[i].whn ns[i].1/\ah w lo ofs c.rs[i].give ns[i].2) /\
 (c.es≠[]->vd=aB/\vr=aB/\w.ownsRow lo 53 2 vg c.es.length (c.es.flatMap (gV ofs)))
theorem jF {P:Program}{sl:Nat}{ops:Array Oper}{rest:List Oper}{o:Oper}{a:Act}{w w':World}{Q:Exit->Act->World->Prop}{v y v':Value}(s z:Operand)(hgd:o.guard=none)
  (ho:o.op = .call { callee:= .builtin .append,args:=#[s,z],argTypes:=#[sl,sl] })(hs:a.eval s=v)(hz:a.eval z=y)(hr:(Builtin.append_ #[sl,sl] o.type #[v,y]).run P w = .ok v' w')(h:wpList P ops Q rest (a.put o.dst v') w'):wpList P ops Q (o::rest) a w :=
 wpList_plain hgd fun _ hK=>wV s z ho hs hz hr (hK _ _ h)
theorem ol (args:Array Value)(w:World):(callFunc 35 args).run Tryz.prog w = .ok (.enter 35 args) w:=zab
theorem Dn {fd fr:Bool}{ts:List Tok}{e:Int}{k m:Nat}(h:kQ fd fr ts = .er e k m):m<=ts.length:=by
 rw[qM] at h
 have g:=iU (M:=M0) ts
 cases hb:jH M0 ts with
 | er e' k' m' =>
  rw[hb] at h g
  cases h
  obtain⟨-,h1,h2,-⟩:=g
  omega
 | ok d r =>
  rw[hb] at h g
  obtain⟨pre,hts,-,-⟩:=g
  have hl:ts.length=pre.length+r.length:=by rw[hts,List.length_append]
  rw[bind_ok] at h
  unfold kY Pa.bad at h
  split at h
  ·split at h
   ·cases h;omega
   ·cases h
  ·cases h;omega
theorem jD {w:World}{lo base E size n:Nat}{v:Value}{xs:List Value}(h:w.ownsRow base E size v n xs)(hl:lo<=base):w.ownsRow lo E size v n xs:=by
 refine⟨h.1,?_⟩
 rcases h.2 with h0|⟨g,cap,cur,h1,h2,h3⟩
 ·exact .inl h0
 ·exact .inr ⟨g,cap,cur,h1,zac,h3⟩
section
variable {b cap qb En mb base cb gx:Nat} {p:Option Addr} {ts:List Tok} {ds:List Decl} {rs:List Rule} {vd vr:Value} {ns:List (NV×NV)}
theorem wy (fd fr:Bool)(k:Nat)(w:World)(h:Rd w b p cap qb ts En mb k)(hC:Cx w base cb gx (ag ts En) ds rs vd vr ns)(hfd:((ds.length:Int)==12)=fd)(hfr:((rs.length:Int)==100)=fr)(hbb:b<base/\b≠cb/\mb<base/\mb≠cb/\(0<ts.length->qb<base/\qb≠cb)/\base<=w.heap.size)(hgx:gx<w.heap.size)(hdl:ds.length<=1000)(hrl:rs.length<=1000)(rb:Nat)(hrb:w.cell? ⟨rb,0,none⟩=some (.pointer (some ⟨b,0,none⟩))) :
  Calls Tryz.prog 35 #[.pointer (some ⟨rb,0,none⟩),.pointer (some ⟨cb,0,none⟩)] w fun e w'=>dW w b p cap qb ts En mb base cb gx vd vr (wI ds) (wo rs) (kQ fd fr (ts.drop k)) e w':=by
 have KX:=zH (zg fd fr k w h hC hfd hfr hbb hgx hdl hrl)
 generalize kQ fd fr (ts.drop k)=O at KX |-
 clear hC h hfd hfr
 go_enter Tryz.func35,Tryz.ntmps35
 go_wp2_with fail
 refine KX.out.mono ?_
 intro e v3 hp
 cases O with
 | ok d r =>
  obtain⟨k',vd',vr',ns',rfl,hp⟩:=hp
  have HP:=zH hp
  clear hp
  go_wp2_with fail
  go_end0
  exact⟨k',vd',vr',ns',rfl,HP.out⟩
 | er E q m =>
  obtain⟨k',rfl,hp⟩:=hp
  have HP:=zH hp
  clear hp
  go_wp2_with fail
  exact aa rfl ⟨k',rfl,HP.out⟩
end
section
variable {w0 W V W1:World} {b cap qb En mb k base rb cb res gx:Nat} {p:Option Addr} {ts:List Tok} {vd vr vg:Value} {ns:List (NV×NV)} {c:By}
theorem BySt.kp2 (h:BySt w0 W b p cap qb ts En mb k base rb cb res gx vd vr vg ns c)(x y:Value):Kept b w0 ((W.setCell ⟨res,0,none⟩ x).setCell ⟨res,1,none⟩ y):=by
 have:=h.n2
 exact(h.sx.kp.other zac 0 x).other zac 1 y
theorem BySt.hp2 (h:BySt w0 W b p cap qb ts En mb k base rb cb res gx vd vr vg ns c)(x y:Value)(j:Nat)(hj:base<=j):((W.setCell ⟨res,0,none⟩ x).setCell ⟨res,1,none⟩ y).heap[j]? = W.heap[j]?:=by
 have:=h.n2
 have:=h.n4
 exact(Below.heap_setCell _ _ _ _ (by show j≠res;omega)).trans (Below.heap_setCell _ _ _ _ (by show j≠res;omega))
theorem BySt.finY (h:BySt w0 W b p cap qb ts En mb k base rb cb res gx vd vr vg ns c)(he:c.es=[]):ByV ((W.setCell ⟨res,0,none⟩ vd).setCell ⟨res,1,none⟩ vr) w0.heap.size (ag ts En) c vd vr aB:=by
 have hb:=h.n4
 exact zz67
theorem BySt.finN (h:BySt w0 W b p cap qb ts En mb k base rb cb res gx vd vr vg ns c)(he:c.es≠[]):ByV ((W.setCell ⟨res,0,none⟩ aB).setCell ⟨res,1,none⟩ aB) w0.heap.size (ag ts En) c aB aB vg:=by
 have hb:=h.n4
 exact Dw
theorem BySt.start {w:World}(h:Rd w b p cap qb ts En mb 0){n:Nat}(hn:n=w.heap.size):BySt w (((w.alloc (.cells #[.pointer (some ⟨b,0,none⟩)] 54)).alloc (.cells #[aB,aB] 26)).alloc (.cells #[aB,aB] 26)) b p cap qb ts En mb 0 (n+3) n (n+2) (n+1) (n+2) aB aB aB [] ⟨[],[],[]⟩:=by
 subst hn
 have s1:∀(v:World) (o:Obj),(v.alloc o).heap.size=v.heap.size+1:=fun v o=>by simp
 refine⟨(((Sx.start h).alloc _).alloc _).alloc _,⟨?_,⟨rfl,.inl ⟨rfl,rfl⟩⟩,⟨rfl,.inl ⟨rfl,rfl⟩⟩,rfl,fun i h=>absurd h (by simp),fun j hj=>(by cases hj),zac⟩,⟨rfl,.inl ⟨rfl,rfl⟩⟩,fun j hj=>(by cases hj),by rw[s1,s1,s1];omega,by simp[Value.ownBlock],by simp[Value.ownBlock],?_,?_,by simp,by simp,by simp,rfl,rfl,rfl,rfl⟩
 ·have:=At2.new ((w.alloc (.cells #[.pointer (some ⟨b,0,none⟩)] 54)).alloc (.cells #[aB,aB] 26)) aB aB 26
  rw[s1,s1] at this
  exact this
 ·rw[aW _ _ _ (by show w.heap.size<_;rw[s1,s1];omega),aW _ _ _ (by show w.heap.size<_;rw[s1];omega)];simp
 ·have:=At2.new (w.alloc (.cells #[.pointer (some ⟨b,0,none⟩)] 54)) aB aB 26
  rw[s1] at this
  exact this.heap (Below.heap_alloc _ _ _ (by rw[s1,s1];omega))
end
section
variable {b cap qb En mb:Nat} {p:Option Addr} {ts:List Tok}
theorem rP (w:World)(h:Rd w b p cap qb ts En mb 0):Calls Tryz.prog 17 #[.pointer (some ⟨b,0,none⟩)] w fun e w'=>∃vd vr vg,e = .returned (.tuple #[.agg #[vd,vr],vg])/\ByV w' w.heap.size (ag ts En) (parse M0 ts) vd vr vg/\Kept b w w':=by
 have hmf:∀(fn:Fn) (first cap:Array Value) (w:World),(Instr.makeFunc fn first cap).run Tryz.prog w = .ok (.func fn first cap) w:=fun _ _ _ _=>rfl
 have hmx:=h.tk.max
 have KA:=zH (fun k w h=>iF (b:=b) (cap:=cap) (qb:=qb) (En:=En) (mb:=mb) (k:=k) (p:=p) (ts:=ts) w h)
 have KL:=zH (fun k w h=>nH (b:=b) (cap:=cap) (qb:=qb) (En:=En) (mb:=mb) (p:=p) (ts:=ts) k w h)
 obtain⟨n,hn⟩:∃n,n=w.heap.size:=⟨_,rfl⟩
 have B0:=zH (BySt.start h hn)
 obtain⟨F,hF⟩:∃F,F=parse M0 ts:=⟨_,rfl⟩
 have HF:Hid (gof M0 (ts.drop 0) ⟨[],[],[]⟩=F):=by show _=_;rw[hF];rfl
 rw[<-hF]
 obtain⟨W0,hW0⟩:∃W0,W0=(((w.alloc (.cells #[.pointer (some ⟨b,0,none⟩)] 54)).alloc (.cells #[aB,aB] 26)).alloc (.cells #[aB,aB] 26)):=⟨_,rfl⟩
 rw[<-hW0] at B0
 obtain⟨cx0,cx1,cf0,cf1⟩:=B0.out.cx.at2
 obtain⟨rx0,rx1,rf0,rf1⟩:=B0.out.rs
 have hwb:=B0.out.rbx
 clear h hF
 go_enter Tryz.func17,Tryz.ntmps17
 go_wp2_with fail
 rw[<-hW0]
 clear hW0 cx0 cx1 cf0 cf1 rx0 rx1 rf0 rf1 hwb
 rw[<-hn]
 clear hn
 have B0:Hid (BySt w W0 b p cap qb ts En mb 0 (n+3) n (n+1+1) (n+1) (n+1+1) aB aB aB [] ⟨[],[],[]⟩):=B0
 generalize n+1+1=cb at *
 generalize n+1=res at *
 generalize n+3=base at *
 go_loopg [5] ts.length (fun g s5 wr=>∃(k gx:Nat) (vd vr:Value) (ns:List (NV×NV)) (c:By),ts.length-k<=g/\Hid (BySt w wr b p cap qb ts En mb k base n cb res gx vd vr s5 ns c)/\Hid (gof M0 (ts.drop k) c=F))
 case atStart=>exact⟨0,cb,aB,aB,[],⟨[],[],[]⟩,zac,B0,HF⟩
 case round =>
  clear B0 HF
  obtain⟨k,gx,vd,vr,ns,c,hg,S,HF⟩:=hrel
  obtain⟨gq,gc,rfl⟩:=aF S.out.rg
  have hel:=S.out.el
  have hkl:=S.out.sx.rd.kl
  by_cases he:k=ts.length
  ·have K1:=zH (KA.out k wr S.out.sx.rd)
   rw[decide_eq_true he] at K1
   have HE:Hid (c=F):=by show _=_;rw[<-HF.out,List.drop_eq_nil_of_le zac,lZ]
   have hwb:=S.out.rbx
   exact zz34
  ·have K1:=zH (KA.out k wr S.out.sx.rd)
   rw[decide_eq_false he] at K1
   have hwb:=S.out.rbx
   by_cases hfu:20<=c.es.length
   ·have e1:decide ((c.es.length:Int)<20)=false:=decide_eq_false zac
    have HE:Hid (c=F):=by show _=_;rw[<-HF.out,mq zac]
    exact zz34
   ·have e1:decide ((c.es.length:Int)<20)=true:=decide_eq_true zac
    go_wp2_with fail
    refine K1.out.mono ?_
    rintro _ v ⟨rfl,hb⟩
    have S1:=zH (S.out.bel hb)
    clear hb K1 S hwb
    have hnil:ts.drop k≠[]:=fun e=> zcg
    have HSt:=zH (vD c (c.ds.length==12) (c.rs.length==100) (ts.drop k) rfl rfl hnil zac S1.out.dl S1.out.rl)
    have bd:=(Below.refl v.heap.size v).alloc (Nat.le_refl _) (.cells #[zI zL 0,zI zL 0] 53)
    have W1s:(v.alloc (.cells #[zI zL 0,zI zL 0] 53)).heap.size=v.heap.size+1:=by simp
    have SD:=zH (S1.out.bel bd)
    have D0:=zH (At2.new v (zI zL 0) (zI zL 0) 53)
    have hbb:=SD.out.bb
    have KD:=zH (wy (c.ds.length==12) (c.rs.length==100) k _ SD.out.sx.rd SD.out.cx (by rw[Bool.eq_iff_iff];simp;omega) (by rw[Bool.eq_iff_iff];simp;omega) ⟨hbb.1,hbb.2.1,hbb.2.2.1,hbb.2.2.2.1,hbb.2.2.2.2,SD.out.bs⟩ SD.out.gl (by have:=SD.out.dl;omega) (by have:=SD.out.rl;omega) n SD.out.rbx)
    have hvs:b<v.heap.size/\cb<v.heap.size/\(∀j,vd.ownBlock=some j->j<v.heap.size)/\(∀j,vr.ownBlock=some j->j<v.heap.size):=⟨S1.out.sx.rd.lt,S1.out.cx.at2.lt,fun j hj=>(S1.out.cx.dr.lt j hj).2,fun j hj=>(S1.out.cx.rr.lt j hj).2⟩
    have HVS:=zH hvs
    have HBD:=zH bd
    clear bd hvs hnil
    rcases HSt.out with ⟨d,r,hdecl,hgof,hl1,hl2,hlen⟩|⟨e,q,m,hdecl,hgof,he3,hlen⟩
    ·rw[hdecl] at KD
     have HF2:Hid (gof M0 r ⟨wI c.ds d,wo c.rs d,c.es⟩=F):=by show _=_;rw[<-hgof];exact HF.out
     have KE:=zH (gT 35 #[.pointer (some ⟨n,0,none⟩),.pointer (some ⟨cb,0,none⟩)] ol (fun w'=>∃(k':Nat) (vd' vr':Value) (ns':List (NV×NV)),BySt w w' b p cap qb ts En mb k' base n cb res gx vd' vr' (.slice gq c.es.length gc) ns' ⟨wI c.ds d,wo c.rs d,c.es⟩/\r=ts.drop k') v (KD.out.mono (by
      rintro e w' ⟨k',vd',vr',ns',rfl,hrd,hr,hcx,hks,ho,ho'⟩
      refine⟨rfl,D0.out.heap (hks.block v.heap.size zac ?_),k',vd',vr',ns',S1.out.step HBD.out hrd hcx hks ho ho' hl1 hl2,hr⟩
      have:=HVS.out
      rintro(e|e|e|e)
      ·omega
      ·omega
      ·have:=this.2.2.1 _ e;omega
      ·have:=this.2.2.2 _ e;omega)))
     have hlen2:(ts.drop k).length=ts.length-k:=List.length_drop
     rw[hlen2] at hlen
     have HLN:=zH hlen
     clear hdecl hgof KD SD D0 HBD HSt hl1 hl2 HF W1s hbb hlen hlen2
     go_wp2_with fail
     refine KE.out.mono ?_
     rintro _ v2 ⟨rfl,v1,⟨k',vd',vr',ns',hS,hr⟩,hB⟩
     have S2:=zH ((hS.bel hB).bel ((Below.refl v2.heap.size v2).alloc (Nat.le_refl _) (.cells #[zI zL 0,zI zL 0] 53)))
     have hkl:=hS.sx.rd.kl
     have hln:ts.length-k'<ts.length-k:=by have:=HLN.out;rw[hr,List.length_drop] at this;exact this
     have HR:=zH hr
     clear hS hB KE hr S1 HVS
     go_wp2_with fail
     go_roundg (ts.length-k')
     case measure=>omega
     case rel=>exact⟨k',gx,vd',vr',ns',_,Nat.le_refl _,S2,by show _=_;rw[<-HR.out];exact HF2.out⟩
    ·have hE:(e==0)=false:=by rcases he3 with rfl|rfl|rfl<;>rfl
     have hm:=Dn hdecl
     rw[hdecl] at KD
     have hlen2:(ts.drop k).length=ts.length-k:=List.length_drop
     rw[hlen2] at hgof hm
     have HGF:Hid (gof M0 (skip ((ts.drop k).drop (ts.length-k-m))) (c.err e q)=F):=by show _=_;rw[<-hgof];exact HF.out
     rw[hlen2] at hlen
     have HLN:=zH hlen
     have KE:=zH (gF 35 #[.pointer (some ⟨n,0,none⟩),.pointer (some ⟨cb,0,none⟩)] ol e (ag ts En q) (fun w'=>∃k',Kept b v w'/\Rd w' b p cap qb ts En mb k'/\m=ts.length-k'/\v.heap.size+1<=w'.heap.size) v (KD.out.mono (by
      rintro e w' ⟨k',rfl,hk,hrd,hm⟩
      exact⟨rfl,D0.out.heap (hk.block v.heap.size zac (by have:=HVS.out.1;omega)),k',(Kept.of HBD.out).trans hk,hrd,hm,by have:=hk.size;omega⟩)))
     clear hdecl hgof KD SD D0 HBD HSt HF hbb hlen hlen2 he3
     go_wp2_with fail
     refine KE.out.mono ?_
     rintro _ v2 ⟨rfl,v1,⟨k',hk,hrd,hmk,hsz⟩,hk2⟩
     have hk3:Kept b v v2:=Kept.own hk (hk2.below (B:=v.heap.size) (Nat.le_refl _) hk.size) (Nat.le_refl _)
     have hrd2:Rd v2 b p cap qb ts En mb k':=hrd.of hk2.size (fun j hj hj2=>hk2.block j hj (by
      have h1:=S1.out.sx.rd
      rcases hj2 with rfl|rfl|⟨z,rfl⟩
      ·have:=h1.lt;omega
      ·have:=h1.ml;omega
      ·have:=h1.tk.lt z;omega))
     have bx:=(Below.refl v2.heap.size v2).alloc (Nat.le_refl _) (.cells #[zI zL (ag ts En q),zI zL e] 53)
     have S2:=zH ((S1.out.keep hk3 hrd2).bel bx)
     have DX:=zH (At2.new v2 (zI zL (ag ts En q)) (zI zL e) 53)
     have hkl:=hrd.kl
     have HMK:=zH hmk
     clear hk hrd hk2 hk3 hrd2 KE S1 HVS W1s bx hmk
     have U1s:(v2.alloc (.cells #[zI zL (ag ts En q),zI zL e] 53)).heap.size=v2.heap.size+1:=by simp
     have bu:=(Below.refl (v2.alloc (.cells #[zI zL (ag ts En q),zI zL e] 53)).heap.size (v2.alloc (.cells #[zI zL (ag ts En q),zI zL e] 53))).alloc (Nat.le_refl _) (.cells #[zI zL (ag ts En q),zI zL e] 53)
     have SU:=zH (S2.out.bel bu)
     have AU:=At2.new (v2.alloc (.cells #[zI zL (ag ts En q),zI zL e] 53)) (zI zL (ag ts En q)) (zI zL e) 53
     rw[U1s] at AU
     obtain⟨vg',W2,hr,hown,hgr,hob⟩:=dG 27 53 2 Tryz.underlying27 nR zah _ base 27 (Value.slice gq c.es.length gc) c.es.length _ SU.out.rg (v2.heap.size+1) (gV (ag ts En) (e,q)) rfl
      (fun j u hu=>by
       match j,hu with
       | 0,hu=>simp[gV] at hu;subst hu;exact AU.c0
       | 1,hu=>simp[gV] at hu;subst hu;exact AU.c1
       | j+2,hu=>simp[gV] at hu) (by simp[gV,Value.oneCell']) zac SU.out.bs
     obtain⟨gx',hS3⟩:=SU.out.app hgr hown hob zac
     obtain⟨gq',gc',rfl⟩:=aF hown
     have S3:=zH hS3
     have HRA:=zH hr
     clear bu AU hown hgr hob hS3 hr SU S2
     obtain⟨d0,d1,-,-⟩:=DX.out
     have hwb:=S3.out.rbx
     go_wp2_with ((with_reducible show wpList _ _ _ ({ dst:=some 23,op:=_,type:=_,pos:=_,after:=_,guard:=_ }::_) _ _);refine jF (v:= .slice gq c.es.length gc) (y:= .slice (some ⟨v2.heap.size+1,0,none⟩) 1 1) (.tmp 20) (.tmp 22) rfl rfl rfl rfl HRA.out ?_)
     refine(KL.out k' W2 S3.out.sx.rd).mono ?_
     rintro _ v3 ⟨rfl,k2,hkp,hrd,hsk⟩
     have S4:=zH (S3.out.keep hkp hrd)
     have hk':k+(ts.length-k-m)=k':=by have:=HMK.out;omega
     have hk2l:=hrd.kl
     have hln:ts.length-k2<ts.length-k:=by
      have h1:=HLN.out
      rw[List.drop_drop,hk',<-hsk,List.length_drop] at h1
      exact h1
     have HF3:Hid (gof M0 (ts.drop k2) (c.err e q)=F):=by
      show _=_
      rw[hsk,<-hk',<-List.drop_drop];exact HGF.out
     clear hkp hrd hsk hwb HRA S3 d0 d1
     go_wp2_with fail
     go_roundg (ts.length-k2)
     case measure=>omega
     case rel=>exact⟨k2,gx',vd,vr,ns,_,Nat.le_refl _,S4,HF3⟩
end
end Go.Proofs.YtnjfolljbfkojaaGreatDoor
