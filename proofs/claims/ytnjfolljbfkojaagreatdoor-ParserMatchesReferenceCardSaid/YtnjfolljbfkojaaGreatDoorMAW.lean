import Derived.Test.YtnjfolljbfkojaaGreatDoorMAU
set_option maxRecDepth 100000
set_option maxHeartbeats 20000000
namespace Go.Proofs.YtnjfolljbfkojaaGreatDoor
open Go.Value renaming int→zI
open Go.IntKind renaming i64→zL
open Go.Lib renaming hid→zH
open Go.RowKit Lx Pa
theorem wF (M:Int->Int->Int×Int×Int)(ts:List Tok)(p:Option Addr)(b off cap n En:Nat)(l:Nat)(hl:l=3)(σ:Sg)(hk:σ.k<=n)(KR:∀σ':Sg,σ'.k<=n->σ.k<=σ'.k->RwC M ts p b off cap n En (l+1) σ'):RwC M ts p b off cap n En l σ:=by
 intro w hS
 have hl0:=hS.ln
 have hmx:=hS.max
 have kb1:=au (En:=En) (aX (M:=M) (.row (l+1)) (ts.drop σ.k)) zac
 have HR0:=zH (mW (M:=M) (ts:=ts) (En:=En) (l:=l) σ zac zac zac)
 have q1:Hid (∀w1,SlT w1 p b off n ts->_):=KR σ hk (Nat.le_refl _)
 obtain⟨τ,hτ⟩:∃x,x=σ.run ts En (rd M (.row l)):=⟨_,rfl⟩
 obtain⟨T,hT⟩:∃x,x=σ.val ts (rd M (.row l)):=⟨_,rfl⟩
 obtain⟨σ1,h1⟩:∃x,x=σ.run ts En (rd M (.row (l+1))):=⟨_,rfl⟩
 obtain⟨t1,ht1⟩:∃x,x=σ.val ts (rd M (.row (l+1))):=⟨_,rfl⟩
 rw[<-hτ,<-hT,<-h1,<-ht1] at HR0
 rw[<-h1,<-ht1] at q1
 rw[<-h1] at kb1
 rw[<-hτ,<-hT]
 clear hτ hT h1 ht1
 have KO:=zH (fun w hS=>aj ts p b off cap n σ.k En σ.E σ.O w hS hk)
 have KP:=zH (fun w=>mV l w zac)
 have KW:=zH (fun (s:Sg) (w:World) (p2:Option Addr) (b2 cap2:Nat) hS hL=>mP (ts:=ts) (p:=p) (b:=b) (off:=off) (cap:=cap) (n:=n) (En:=En) l s w p2 b2 cap2 hS hL)
 have KRh:Hid (∀σ':Sg,σ'.k<=n->σ.k<=σ'.k->RwC M ts p b off cap n En (l+1) σ'):=KR
 have HS:=zH hS
 obtain⟨hln,hlp,hlm⟩:=vK l zac
 have h6:((l:Int)==6)=false:=zai
 have h2:((l:Int)==2)=false:=zai
 have h3:((l:Int)==3)=true:=zai
 have hw1:IntKind.i64.wrap ((l:Int)+1)=((l+1:Nat):Int):=zal
 have HL:=zH hl
 rw[hl0] at HR0
 clear hS KR hl
 obtain⟨k,E,O⟩:=σ
 obtain⟨k1,E1,O1⟩:=σ1
 simp only at q1 hk kb1 KO KRh HR0 |-
 obtain⟨at0,hat⟩:∃a,a=ag ts En (n-k):=⟨_,rfl⟩
 rw[<-hat] at KO
 have HAT:=zH hat
 clear hat
 obtain⟨W3,hW3⟩:∃W3,W3=((w.alloc (.cells #[.slice p n cap,zI zL (k:Nat),zI zL En,zI zL E,zI zL O] 62)).alloc (.cells #[zI zL 0,zI zL 0,.string ⟨#[]⟩,zI zL 0,zI zL 0,.bool false,zI zL 0,zI zL 0,zI zL 0,.slice none 0 0] 36)).alloc (.cells #[.slice none 0 0,zI zL 0,zI zL 0,zI zL 0,zI zL 0] 62):=⟨_,rfl⟩
 have F:=zH (Fr.new w p n cap (k:Nat) En E O 62 36)
 rw[<-hW3] at F
 go_enter Tryz.func51,Tryz.ntmps51
 go_wp2_with fail
 rw[<-hW3]
 clear hW3
 refine(KO.out _ (HS.out.bel F.out.B)).mono ?_
 rintro _ v1 ⟨rfl,hb⟩
 replace F:=zH (F.out.bel hb)
 clear hb
 obtain⟨c0,c1,c2,c3,c4,f0,f1,f2,f3,f4⟩:=F.out.A
 go_wp2_with fail
 have lox:=World.block_lt_of_cell? _ _ F.out.R.c0
 simp only at lox
 refine(q1.out _ (HS.out.bel F.out.B)).mono ?_
 rintro _ v3 ⟨⟨xo,xa,xs,xn,xd,xf,xm,xr,xy,xq,xk,xc⟩,rfl,hn,hb⟩
 have hsx:=hb.size
 replace F:=zH (F.out.bel hb)
 have Nx:Hid (∀u,t1=some u->NodeA v3 (fun j=>w.heap.size+2<j/\j≠v3.heap.size) (ag ts En) u ⟨xo,xa,xs,xn,xd,xf,xm,xr,xy,xq,xk,xc⟩):=fun u hu=>NodeA.keep (Nat.le_refl _) (fun _ _ _=>rfl) (fun j (hj:v1.heap.size<=j) hj2=>⟨zac,zac⟩) _ _ (hn u hu)
 clear hb hn c0 c1 c2 c3 c4 f0 f1 f2 f3 f4
 obtain⟨c0,c1,c2,c3,c4,f0,f1,f2,f3,f4⟩:=F.out.A
 have hvx:=World.block_lt_of_cell? _ _ c0
 go_wp2_with fail
 obtain⟨hF,hK,hX⟩:=F.out.node (zI zL xo) (zI zL xa) (.string xs) (zI zL xn) (zI zL xd) (.bool xf) (zI zL xm) (zI zL xr) (zI zL xy) (.slice xq xk xc) 36 (k1:Nat) E1 O1
 replace F:=zH hF
 have Xx:=zH hX
 replace Nx:=zH (fun u hu=>NodeA.kept hK (fun h=>absurd h.1 zac) _ _ (Nx.out u hu))
 have hsx':=hK.size
 clear hF hK hX c0 c1 c2 c3 c4 f0 f1 f2 f3 f4
 generalize ((((((v3.setCell ⟨w.heap.size,0,none⟩ (.slice p n cap)).setCell ⟨w.heap.size,1,none⟩ (zI zL (k1:Nat))).setCell ⟨w.heap.size,2,none⟩ (zI zL En)).setCell ⟨w.heap.size,3,none⟩ (zI zL E1)).setCell ⟨w.heap.size,4,none⟩ (zI zL O1)).alloc (.cells #[zI zL xo,zI zL xa,.string xs,zI zL xn,zI zL xd,.bool xf,zI zL xm,zI zL xr,zI zL xy,.slice xq xk xc] 36))=V1 at *
 generalize v3.heap.size=blx at *
 obtain⟨c0,c1,c2,c3,c4,f0,f1,f2,f3,f4⟩:=F.out.A
 refine(KP.out _).mono ?_
 rintro _ v5 ⟨q5,b5,cap5,q6,b6,cap6,rfl,hs5,hs6,hb,hb5,hb6⟩
 obtain rfl:q6=some ⟨b6,0,none⟩:=hs6.ptr zac
 have hs1:=World.block_lt_of_cell? _ _ Xx.out.c0
 simp only at hs1
 replace F:=zH (F.out.bel hb)
 replace Xx:=zH (Xx.out.bel hb)
 replace Nx:=zH (fun u hu=>NodeA.bel hb _ _ (Nx.out u hu))
 have S5:=zH hs5
 have S6:=zH hs6
 clear hb hs5 hs6 c0 c1 c2 c3 c4 f0 f1 f2 f3 f4
 obtain⟨c0,c1,c2,c3,c4,f0,f1,f2,f3,f4⟩:=F.out.A
 go_wp2_with fail
 refine(KW.out ⟨k1,E1,O1⟩ _ _ _ _ (HS.out.bel F.out.B) S5.out).mono ?_
 rintro _ v6 ⟨rfl,hb⟩
 replace F:=zH (F.out.bel hb)
 replace Xx:=zH (Xx.out.bel hb)
 replace Nx:=zH (fun u hu=>NodeA.bel hb _ _ (Nx.out u hu))
 replace S5:=zH (S5.out.bel hb)
 replace S6:=zH (S6.out.bel hb)
 generalize wh ts l ⟨k1,E1,O1⟩=i0 at *
 have hb5':w.heap.size<b5/\b5≠blx:=⟨zac,zac⟩
 have hb6':w.heap.size<b6/\b6≠blx:=⟨zac,zac⟩
 have hlx:w.heap.size+2<blx:=zac
 clear hb hb5 hb6 hs1 lox hsx hvx hsx' q1 KP KO c0 c1 c2 c3 c4 f0 f1 f2 f3 f4
 go_wp2_with fail
 go_loopg [12] n (fun q s12 wr=>∃(kk:Nat) (EE OO:Int) (t:Option Tree) (i:Int) (x:NV),s12 = zI zL i/\n-kk<=q/\kk<=n/\k<=kk/\Hid (Fr w wr p n cap kk En EE OO)/\Hid (B10 wr blx (zI zL x.o) (zI zL x.a) (.string x.s) (zI zL x.n) (zI zL x.d) (.bool x.f) (zI zL x.m) (zI zL x.r) (zI zL x.y) (.slice x.q x.k x.c))/\Hid (∀u,t=some u->NodeA wr (fun j=>w.heap.size+2<j/\j≠blx) (ag ts En) u x)/\Hid (SlS wr q5 b5 0 (signs l).length (signs l))/\Hid (SlI wr (some ⟨b6,0,none⟩) b6 0 (ops l).length (ops l))/\Hid (Rst M ts En l (n-k) τ T i ⟨kk,EE,OO⟩ t))
 case atStart=>exact⟨k1,E1,O1,t1,i0,⟨xo,xa,xs,xn,xd,xf,xm,xr,xy,xq,xk,xc⟩,rfl,zac,zac,zac,F,Xx,Nx,S5,S6,HR0⟩
 case round =>
  clear F Xx Nx S5 S6 HR0 kb1
  obtain⟨kk,EE,OO,t,i,⟨xo,xa,xs,xn,xd,xf,xm,xr,xy,xq,xk,xc⟩,rfl,hq,hkn,hkk,F,Xx,Nx,S5,S6,HR⟩:=hrel
  rcases HR.out with ⟨rfl,rfl,rfl⟩|⟨j,u0,rfl,hj,rfl,h0,hkt,hwj,hτ,hT⟩
  ·exact zz17
  ·simp only at h0 hkt hwj
   subst h0
   have HR2:=zH (yZ (M:=M) (En:=En) (l:=l) (pl:=n-k) (u:=u0) kk OO HL.out hkt hwj)
   have q2:Hid (∀w1,SlT w1 p b off n ts->_):=KRh.out ⟨kk+1,0,OO⟩ (by show kk+1<=n;omega) (by show k<=kk+1;omega)
   have kb2:=au (En:=En) (σ:=⟨kk+1,0,OO⟩) (aX (M:=M) (.row (l+1)) (ts.drop (kk+1))) (show kk+1<=ts.length from zac)
   obtain⟨σ2,h1⟩:∃x,x=(Sg.mk (kk+1) 0 OO).run ts En (rd M (.row (l+1))):=⟨_,rfl⟩
   obtain⟨t2,ht2⟩:∃x,x=(Sg.mk (kk+1) 0 OO).val ts (rd M (.row (l+1))):=⟨_,rfl⟩
   rw[<-hτ,<-hT,<-h1,<-ht2] at HR2
   rw[<-h1,<-ht2] at q2
   rw[<-h1] at kb2
   clear hτ hT h1 ht2 HR hwj
   obtain⟨k2,E2,O2⟩:=σ2
   simp only at q2 kb2 HR2
   have hkw:IntKind.i64.wrap ((kk:Int)+1)=((kk+1:Nat):Int):=zal
   rw[show((kk+1:Nat):Int)=(kk:Int)+1 by omega] at hkw q2
   obtain⟨op,hop⟩:∃x,x=(ops l).getD j 0:=⟨_,rfl⟩
   rw[<-hop] at HR2
   have HC:Hid (∀v,SlI v (some ⟨b6,0,none⟩) b6 0 (ops l).length (ops l)->v.cell? ⟨b6,j,none⟩=some (zI zL op)):=fun v h=>by
    have:=h.cells j zac
    rw[Nat.zero_add] at this
    rw[this,hop];simp[List.getD,List.getElem?_eq_getElem (show j<(ops l).length from zac)]
   clear hop
   have hj0:(0:Int)<=(j:Int):=zac
   have hjl:(j:Int)<((ops l).length:Int):=zac
   obtain⟨c0,c1,c2,c3,c4,f0,f1,f2,f3,f4⟩:=F.out.A
   go_wp2_with fail
   replace F:=zH (F.out.inc ((kk:Int)+1))
   have hKr:=(Kept.refl w.heap.size wr).setCell 1 none (zI zL ((kk:Int)+1))
   replace Xx:=zH (Xx.out.kept hKr zac)
   replace Nx:=zH (fun u hu=>NodeA.kept hKr (fun h=>absurd h.1 zac) _ _ (Nx.out u hu))
   replace S5:=zH (S5.out.kept hKr zac)
   replace S6:=zH (S6.out.kept hKr zac)
   clear hKr c0 c1 c2 c3 c4 f0 f1 f2 f3 f4
   generalize wr.setCell ⟨w.heap.size,1,none⟩ (zI zL ((kk:Int)+1))=V at *
   have loy:=World.block_lt_of_cell? _ _ Xx.out.c0
   simp only at loy
   refine(q2.out _ (HS.out.bel F.out.B)).mono ?_
   rintro _ v7 ⟨⟨yo,ya,ys,yn,yd,yf,ym,yr,yy,yq,yk,yc⟩,rfl,hn,hb⟩
   have hsy:=hb.size
   replace F:=zH (F.out.bel hb)
   replace Xx:=zH (Xx.out.bel hb)
   replace Nx:=zH (fun u hu=>NodeA.bel hb _ _ (Nx.out u hu))
   replace S5:=zH (S5.out.bel hb)
   replace S6:=zH (S6.out.bel hb)
   have Ny:Hid (∀u,t2=some u->NodeA v7 (fun j=>w.heap.size+2<j/\j≠blx) (ag ts En) u ⟨yo,ya,ys,yn,yd,yf,ym,yr,yy,yq,yk,yc⟩):=fun u hu=>NodeA.keep (Nat.le_refl _) (fun _ _ _=>rfl) (fun j (hj:V.heap.size<=j) hj2=>⟨zac,zac⟩) _ _ (hn u hu)
   clear hb hn
   obtain⟨c0,c1,c2,c3,c4,f0,f1,f2,f3,f4⟩:=F.out.A
   have hvy:=World.block_lt_of_cell? _ _ c0
   go_wp2_with fail
   obtain⟨hF,hK,hX⟩:=F.out.node (zI zL yo) (zI zL ya) (.string ys) (zI zL yn) (zI zL yd) (.bool yf) (zI zL ym) (zI zL yr) (zI zL yy) (.slice yq yk yc) 36 (k2:Nat) E2 O2
   have hb:=(Below.refl ((((((v7.setCell ⟨w.heap.size,0,none⟩ (.slice p n cap)).setCell ⟨w.heap.size,1,none⟩ (zI zL (k2:Nat))).setCell ⟨w.heap.size,2,none⟩ (zI zL En)).setCell ⟨w.heap.size,3,none⟩ (zI zL E2)).setCell ⟨w.heap.size,4,none⟩ (zI zL O2)).alloc (.cells #[zI zL yo,zI zL ya,.string ys,zI zL yn,zI zL yd,.bool yf,zI zL ym,zI zL yr,zI zL yy,.slice yq yk yc] 36)).heap.size ((((((v7.setCell ⟨w.heap.size,0,none⟩ (.slice p n cap)).setCell ⟨w.heap.size,1,none⟩ (zI zL (k2:Nat))).setCell ⟨w.heap.size,2,none⟩ (zI zL En)).setCell ⟨w.heap.size,3,none⟩ (zI zL E2)).setCell ⟨w.heap.size,4,none⟩ (zI zL O2)).alloc (.cells #[zI zL yo,zI zL ya,.string ys,zI zL yn,zI zL yd,.bool yf,zI zL ym,zI zL yr,zI zL yy,.slice yq yk yc] 36))).alloc (Nat.le_refl _) (.cells #[.slice p n cap,zI zL (k2:Nat),zI zL En,zI zL E2,zI zL O2] 62)
   replace F:=zH (hF.bel hb)
   have Xy:=zH (hX.bel hb)
   replace Xx:=zH ((Xx.out.kept hK zac).bel hb)
   replace Nx:=zH (fun u hu=>NodeA.bel hb _ _ (NodeA.kept hK (fun h=>absurd h.1 zac) _ _ (Nx.out u hu)))
   replace Ny:=zH (fun u hu=>NodeA.bel hb _ _ (NodeA.kept hK (fun h=>absurd h.1 zac) _ _ (Ny.out u hu)))
   replace S5:=zH ((S5.out.kept hK zac).bel hb)
   replace S6:=zH ((S6.out.kept hK zac).bel hb)
   have hsy':=hK.size
   have hsy2:=hb.size
   clear hF hK hX hb c0 c1 c2 c3 c4 f0 f1 f2 f3 f4
   generalize ((((((v7.setCell ⟨w.heap.size,0,none⟩ (.slice p n cap)).setCell ⟨w.heap.size,1,none⟩ (zI zL (k2:Nat))).setCell ⟨w.heap.size,2,none⟩ (zI zL En)).setCell ⟨w.heap.size,3,none⟩ (zI zL E2)).setCell ⟨w.heap.size,4,none⟩ (zI zL O2)).alloc (.cells #[zI zL yo,zI zL ya,.string ys,zI zL yn,zI zL yd,.bool yf,zI zL ym,zI zL yr,zI zL yy,.slice yq yk yc] 36)).alloc (.cells #[.slice p n cap,zI zL (k2:Nat),zI zL En,zI zL E2,zI zL O2] 62)=V2 at *
   generalize v7.heap.size=bly at *
   have hby:=World.block_lt_of_cell? _ _ Xy.out.c0
   have hbxy:blx<bly:=zac
   simp only at hby
   clear hsy hsy' hsy2 hvy loy
   have hS:Hid (B10 V2.drew blx (zI zL xo) (zI zL xa) (.string xs) (zI zL xn) (zI zL xd) (.bool xf) (zI zL xm) (zI zL xr) (zI zL xy) (.slice xq xk xc)/\B10 V2.drew bly (zI zL yo) (zI zL ya) (.string ys) (zI zL yn) (zI zL yd) (.bool yf) (zI zL ym) (zI zL yr) (zI zL yy) (.slice yq yk yc)/\V2.drew.cell? ⟨b6,j,none⟩=some (zI zL op)):=⟨Xx.out.bel (Below.refl _ _).drew,Xy.out.bel (Below.refl _ _).drew,HC.out V2 S6.out⟩
   refine wp_region_held (S:=fun w':World=>Hid (B10 w' blx (zI zL xo) (zI zL xa) (.string xs) (zI zL xn) (zI zL xd) (.bool xf) (zI zL xm) (zI zL xr) (zI zL xy) (.slice xq xk xc)/\B10 w' bly (zI zL yo) (zI zL ya) (.string ys) (zI zL yn) (zI zL yd) (.bool yf) (zI zL ym) (zI zL yr) (zI zL yy) (.slice yq yk yc)/\w'.cell? ⟨b6,j,none⟩=some (zI zL op))) mixed ?_
   change wpAnyH _ _ _ _ _ _ _ _ V2.drew
   refine tk0 (v:= .slice (some ⟨b6,0,none⟩) (ops l).length cap6) zab zab zab (fun _ _ _ h=>h) (Or.inl ⟨zab,?_⟩) hS ?_
   ·intro w' hSw
    go_simp;try with_reducible rfl
   simp only[Act.put,zA,zB,zC]
   refine tk1 (v:= zI zL (j:Nat)) zab zab zab (fun _ _ _ h=>h) (Or.inl ⟨zab,?_⟩) hS ?_
   ·intro w' hSw
    go_simp;try with_reducible rfl
   simp only[Act.put,zA,zB,zC]
   refine tk2 (v:= .pointer (some ⟨b6,j,none⟩)) zab zab zab (fun _ _ _ h=>h) (Or.inl ⟨zab,?_⟩) hS ?_
   ·intro w' hSw
    go_simp;try with_reducible rfl
   simp only[Act.put,zA,zB,zC]
   refine tk3 (v:= zI zL op) zab zab zab (fun _ _ _ h=>h) (Or.inl ⟨zab,?_⟩) hS ?_
   ·intro w' hSw
    obtain⟨-,-,hc⟩:=hSw.out
    go_simp;try with_reducible rfl
   simp only[Act.put,zA,zB,zC]
   refine tk4 (v:= zI zL at0) zab zab zab (fun _ _ _ h=>h) (Or.inl ⟨zab,?_⟩) hS ?_
   ·intro w' hSw
    go_simp;try with_reducible rfl
   simp only[Act.put,zA,zB,zC]
   refine tk5 (v:= .agg #[zI zL xo,zI zL xa,.string xs,zI zL xn,zI zL xd,.bool xf,zI zL xm,zI zL xr,zI zL xy,.slice xq xk xc]) zab zab zab (fun _ _ _ h=>h) (Or.inl ⟨zab,?_⟩) hS ?_
   ·exact Cy
   simp only[Act.put,zA,zB,zC]
   refine tk6 (v:= .agg #[zI zL yo,zI zL ya,.string ys,zI zL yn,zI zL yd,.bool yf,zI zL ym,zI zL yr,zI zL yy,.slice yq yk yc]) zab zab zab (fun _ _ _ h=>h) (Or.inl ⟨zab,?_⟩) hS ?_
   ·exact EJ
   simp only[Act.put,zA,zB,zC]
   refine wpAnyH_ready (rs:=[7,9]) zab (by simp) (st7 (fun K hK=>?_) (st9 (fun K hK=>?_) AllReadyH.nil))
   ·go_simp
    have hsl:=World.block_lt_of_cell? _ _ Xx.out.c0
    have hslz:=hsl
    simp only at hsl hslz
    have hb4:=((Below.refl V2.heap.size V2).alloc (Nat.le_refl _) (.cells #[zI zL xo,zI zL xa,.string xs,zI zL xn,zI zL xd,.bool xf,zI zL xm,zI zL xr,zI zL xy,.slice xq xk xc,zI zL yo,zI zL ya,.string ys,zI zL yn,zI zL yd,.bool yf,zI zL ym,zI zL yr,zI zL yy,.slice yq yk yc] 36)).drew
    have HZ:Hid (∀m,t2=some m->NodeA ((V2.alloc (.cells #[zI zL xo,zI zL xa,.string xs,zI zL xn,zI zL xd,.bool xf,zI zL xm,zI zL xr,zI zL xy,.slice xq xk xc,zI zL yo,zI zL ya,.string ys,zI zL yn,zI zL yd,.bool yf,zI zL ym,zI zL yr,zI zL yy,.slice yq yk yc] 36)).drew) (fun j=>w.heap.size+2<j/\j≠blx) (ag ts En) (.mk op (n-k) [] 0 0 1 [u0,m]) ⟨op,at0,⟨#[]⟩,0,0,false,0,0,0,some ⟨V2.heap.size,0,none⟩,2,2⟩):=fun m hm=>by
     rw[HAT.out]
     exact zz88
    replace F:=zH (F.out.bel hb4)
    replace Xx:=zH (Xx.out.bel hb4)
    replace Xy:=zH (Xy.out.bel hb4)
    replace S5:=zH (S5.out.bel hb4)
    replace S6:=zH (S6.out.bel hb4)
    replace Nx:=zH (fun u hu=>NodeA.bel hb4 _ _ (Nx.out u hu))
    replace Ny:=zH (fun u hu=>NodeA.bel hb4 _ _ (Ny.out u hu))
    replace hS:Hid (B10 (V2.alloc (.cells #[zI zL xo,zI zL xa,.string xs,zI zL xn,zI zL xd,.bool xf,zI zL xm,zI zL xr,zI zL xy,.slice xq xk xc,zI zL yo,zI zL ya,.string ys,zI zL yn,zI zL yd,.bool yf,zI zL ym,zI zL yr,zI zL yy,.slice yq yk yc] 36)).drew blx (zI zL xo) (zI zL xa) (.string xs) (zI zL xn) (zI zL xd) (.bool xf) (zI zL xm) (zI zL xr) (zI zL xy) (.slice xq xk xc)/\B10 (V2.alloc (.cells #[zI zL xo,zI zL xa,.string xs,zI zL xn,zI zL xd,.bool xf,zI zL xm,zI zL xr,zI zL xy,.slice xq xk xc,zI zL yo,zI zL ya,.string ys,zI zL yn,zI zL yd,.bool yf,zI zL ym,zI zL yr,zI zL yy,.slice yq yk yc] 36)).drew bly (zI zL yo) (zI zL ya) (.string ys) (zI zL yn) (zI zL yd) (.bool yf) (zI zL ym) (zI zL yr) (zI zL yy) (.slice yq yk yc)/\(V2.alloc (.cells #[zI zL xo,zI zL xa,.string xs,zI zL xn,zI zL xd,.bool xf,zI zL xm,zI zL xr,zI zL xy,.slice xq xk xc,zI zL yo,zI zL ya,.string ys,zI zL yn,zI zL yd,.bool yf,zI zL ym,zI zL yr,zI zL yy,.slice yq yk yc] 36)).drew.cell? ⟨b6,j,none⟩=some (zI zL op)):=⟨Xx.out,Xy.out,HC.out _ S6.out⟩
    clear hb4 hsl hslz
    generalize (V2.alloc (.cells #[zI zL xo,zI zL xa,.string xs,zI zL xn,zI zL xd,.bool xf,zI zL xm,zI zL xr,zI zL xy,.slice xq xk xc,zI zL yo,zI zL ya,.string ys,zI zL yn,zI zL yd,.bool yf,zI zL ym,zI zL yr,zI zL yy,.slice yq yk yc] 36)).drew=VE at *
    generalize V2.heap.size=sl at *
    refine hK.out _ _ ?_ (fun hHeld=>?_)
    ·exact hS
    clear hK K
    try simp only[Act.put,zA,zB,zC]
    refine tk8 (v:= .agg #[zI zL op,zI zL at0,.string ⟨#[]⟩,zI zL 0,zI zL 0,.bool false,zI zL 0,zI zL 0,zI zL 0,.slice (some ⟨sl,0,none⟩) 2 2]) zab zab zab (fun _ _ _ h=>h) (Or.inl ⟨zab,?_⟩) hS ?_
    ·intro w' hSw
     go_simp;try with_reducible rfl
    simp only[Act.put,zA,zB,zC]
    refine wpAnyH_ready (rs:=[9]) zab (by simp) (st9 (fun K hK=>?_) AllReadyH.nil)
    go_simp
    have hb9:=((Below.refl VE.heap.size VE).alloc (Nat.le_refl _) (.cells #[zI zL 0,zI zL 0,.string ⟨#[]⟩,zI zL 0,zI zL 0,.bool false,zI zL 0,zI zL 0,zI zL 0,.slice none 0 0] 36))
    have Xz:=zH ((B10.new VE (zI zL 0) (zI zL 0) (.string ⟨#[]⟩) (zI zL 0) (zI zL 0) (.bool false) (zI zL 0) (zI zL 0) (zI zL 0) (.slice none 0 0) 36))
    have hzx:=World.block_lt_of_cell? _ _ Xx.out.c0
    have hzy:=World.block_lt_of_cell? _ _ Xy.out.c0
    have hz5:=S5.out.lt zac
    have hz6:=S6.out.lt zac
    simp only at hzx hzy
    replace Nx:=zH (fun u hu=>NodeA.keep (A':=fun j=>(w.heap.size+2<j/\j≠blx)/\j≠VE.heap.size) (Nat.le_refl _) (fun _ _ _=>rfl) (fun j hj hj2=>⟨hj,Nat.ne_of_lt hj2⟩) _ _ (Nx.out u hu))
    replace Ny:=zH (fun u hu=>NodeA.keep (A':=fun j=>(w.heap.size+2<j/\j≠blx)/\j≠VE.heap.size) (Nat.le_refl _) (fun _ _ _=>rfl) (fun j hj hj2=>⟨hj,Nat.ne_of_lt hj2⟩) _ _ (Ny.out u hu))
    replace HZ:=zH (fun u hu=>NodeA.keep (A':=fun j=>(w.heap.size+2<j/\j≠blx)/\j≠VE.heap.size) (Nat.le_refl _) (fun _ _ _=>rfl) (fun j hj hj2=>⟨hj,Nat.ne_of_lt hj2⟩) _ _ (HZ.out u hu))
    replace F:=zH (F.out.bel hb9)
    replace Xx:=zH (Xx.out.bel hb9)
    replace Xy:=zH (Xy.out.bel hb9)
    replace S5:=zH (S5.out.bel hb9)
    replace S6:=zH (S6.out.bel hb9)
    replace Nx:=zH (fun u hu=>NodeA.bel hb9 _ _ (Nx.out u hu))
    replace Ny:=zH (fun u hu=>NodeA.bel hb9 _ _ (Ny.out u hu))
    replace HZ:=zH (fun m hm=>NodeA.bel hb9 _ _ (HZ.out m hm))
    replace hS:Hid (B10 (VE.alloc (.cells #[zI zL 0,zI zL 0,.string ⟨#[]⟩,zI zL 0,zI zL 0,.bool false,zI zL 0,zI zL 0,zI zL 0,.slice none 0 0] 36)) blx (zI zL xo) (zI zL xa) (.string xs) (zI zL xn) (zI zL xd) (.bool xf) (zI zL xm) (zI zL xr) (zI zL xy) (.slice xq xk xc)/\B10 (VE.alloc (.cells #[zI zL 0,zI zL 0,.string ⟨#[]⟩,zI zL 0,zI zL 0,.bool false,zI zL 0,zI zL 0,zI zL 0,.slice none 0 0] 36)) bly (zI zL yo) (zI zL ya) (.string ys) (zI zL yn) (zI zL yd) (.bool yf) (zI zL ym) (zI zL yr) (zI zL yy) (.slice yq yk yc)/\(VE.alloc (.cells #[zI zL 0,zI zL 0,.string ⟨#[]⟩,zI zL 0,zI zL 0,.bool false,zI zL 0,zI zL 0,zI zL 0,.slice none 0 0] 36)).cell? ⟨b6,j,none⟩=some (zI zL op)):=⟨Xx.out,Xy.out,HC.out _ S6.out⟩
    clear hb9
    generalize (VE.alloc (.cells #[zI zL 0,zI zL 0,.string ⟨#[]⟩,zI zL 0,zI zL 0,.bool false,zI zL 0,zI zL 0,zI zL 0,.slice none 0 0] 36))=VF at *
    generalize VE.heap.size=blz at *
    refine hK.out _ _ ?_ (fun hHeld=>?_)
    ·exact hS
    clear hK K
    try simp only[Act.put,zA,zB,zC]
    exact zz3
   ·go_simp
    have hb9:=((Below.refl V2.heap.size V2).alloc (Nat.le_refl _) (.cells #[zI zL 0,zI zL 0,.string ⟨#[]⟩,zI zL 0,zI zL 0,.bool false,zI zL 0,zI zL 0,zI zL 0,.slice none 0 0] 36)).drew
    have Xz:=zH ((B10.new V2 (zI zL 0) (zI zL 0) (.string ⟨#[]⟩) (zI zL 0) (zI zL 0) (.bool false) (zI zL 0) (zI zL 0) (zI zL 0) (.slice none 0 0) 36).bel (Below.refl _ _).drew)
    have hzx:=World.block_lt_of_cell? _ _ Xx.out.c0
    have hzy:=World.block_lt_of_cell? _ _ Xy.out.c0
    have hz5:=S5.out.lt zac
    have hz6:=S6.out.lt zac
    simp only at hzx hzy
    replace Nx:=zH (fun u hu=>NodeA.keep (A':=fun j=>(w.heap.size+2<j/\j≠blx)/\j≠V2.heap.size) (Nat.le_refl _) (fun _ _ _=>rfl) (fun j hj hj2=>⟨hj,Nat.ne_of_lt hj2⟩) _ _ (Nx.out u hu))
    replace Ny:=zH (fun u hu=>NodeA.keep (A':=fun j=>(w.heap.size+2<j/\j≠blx)/\j≠V2.heap.size) (Nat.le_refl _) (fun _ _ _=>rfl) (fun j hj hj2=>⟨hj,Nat.ne_of_lt hj2⟩) _ _ (Ny.out u hu))
    replace F:=zH (F.out.bel hb9)
    replace Xx:=zH (Xx.out.bel hb9)
    replace Xy:=zH (Xy.out.bel hb9)
    replace S5:=zH (S5.out.bel hb9)
    replace S6:=zH (S6.out.bel hb9)
    replace Nx:=zH (fun u hu=>NodeA.bel hb9 _ _ (Nx.out u hu))
    replace Ny:=zH (fun u hu=>NodeA.bel hb9 _ _ (Ny.out u hu))
    replace hS:Hid (B10 (V2.alloc (.cells #[zI zL 0,zI zL 0,.string ⟨#[]⟩,zI zL 0,zI zL 0,.bool false,zI zL 0,zI zL 0,zI zL 0,.slice none 0 0] 36)).drew blx (zI zL xo) (zI zL xa) (.string xs) (zI zL xn) (zI zL xd) (.bool xf) (zI zL xm) (zI zL xr) (zI zL xy) (.slice xq xk xc)/\B10 (V2.alloc (.cells #[zI zL 0,zI zL 0,.string ⟨#[]⟩,zI zL 0,zI zL 0,.bool false,zI zL 0,zI zL 0,zI zL 0,.slice none 0 0] 36)).drew bly (zI zL yo) (zI zL ya) (.string ys) (zI zL yn) (zI zL yd) (.bool yf) (zI zL ym) (zI zL yr) (zI zL yy) (.slice yq yk yc)/\(V2.alloc (.cells #[zI zL 0,zI zL 0,.string ⟨#[]⟩,zI zL 0,zI zL 0,.bool false,zI zL 0,zI zL 0,zI zL 0,.slice none 0 0] 36)).drew.cell? ⟨b6,j,none⟩=some (zI zL op)):=⟨Xx.out,Xy.out,HC.out _ S6.out⟩
    clear hb9
    generalize (V2.alloc (.cells #[zI zL 0,zI zL 0,.string ⟨#[]⟩,zI zL 0,zI zL 0,.bool false,zI zL 0,zI zL 0,zI zL 0,.slice none 0 0] 36)).drew=VE at *
    generalize V2.heap.size=blz at *
    refine hK.out _ _ ?_ (fun hHeld=>?_)
    ·exact hS
    clear hK K
    try simp only[Act.put,zA,zB,zC]
    refine wpAnyH_ready (rs:=[7]) zab (by simp) (st7 (fun K hK=>?_) AllReadyH.nil)
    go_simp
    have hsl:=World.block_lt_of_cell? _ _ Xx.out.c0
    have hslz:=World.block_lt_of_cell? _ _ Xz.out.c0
    simp only at hsl hslz
    have hb4:=((Below.refl VE.heap.size VE).alloc (Nat.le_refl _) (.cells #[zI zL xo,zI zL xa,.string xs,zI zL xn,zI zL xd,.bool xf,zI zL xm,zI zL xr,zI zL xy,.slice xq xk xc,zI zL yo,zI zL ya,.string ys,zI zL yn,zI zL yd,.bool yf,zI zL ym,zI zL yr,zI zL yy,.slice yq yk yc] 36))
    have HZ:Hid (∀m,t2=some m->NodeA ((VE.alloc (.cells #[zI zL xo,zI zL xa,.string xs,zI zL xn,zI zL xd,.bool xf,zI zL xm,zI zL xr,zI zL xy,.slice xq xk xc,zI zL yo,zI zL ya,.string ys,zI zL yn,zI zL yd,.bool yf,zI zL ym,zI zL yr,zI zL yy,.slice yq yk yc] 36))) (fun j=>(w.heap.size+2<j/\j≠blx)/\j≠blz) (ag ts En) (.mk op (n-k) [] 0 0 1 [u0,m]) ⟨op,at0,⟨#[]⟩,0,0,false,0,0,0,some ⟨VE.heap.size,0,none⟩,2,2⟩):=fun m hm=>by
     rw[HAT.out]
     exact zz86
    replace F:=zH (F.out.bel hb4)
    replace Xx:=zH (Xx.out.bel hb4)
    replace Xy:=zH (Xy.out.bel hb4)
    replace S5:=zH (S5.out.bel hb4)
    replace S6:=zH (S6.out.bel hb4)
    replace Nx:=zH (fun u hu=>NodeA.bel hb4 _ _ (Nx.out u hu))
    replace Ny:=zH (fun u hu=>NodeA.bel hb4 _ _ (Ny.out u hu))
    replace Xz:=zH (Xz.out.bel hb4)
    replace hS:Hid (B10 (VE.alloc (.cells #[zI zL xo,zI zL xa,.string xs,zI zL xn,zI zL xd,.bool xf,zI zL xm,zI zL xr,zI zL xy,.slice xq xk xc,zI zL yo,zI zL ya,.string ys,zI zL yn,zI zL yd,.bool yf,zI zL ym,zI zL yr,zI zL yy,.slice yq yk yc] 36)) blx (zI zL xo) (zI zL xa) (.string xs) (zI zL xn) (zI zL xd) (.bool xf) (zI zL xm) (zI zL xr) (zI zL xy) (.slice xq xk xc)/\B10 (VE.alloc (.cells #[zI zL xo,zI zL xa,.string xs,zI zL xn,zI zL xd,.bool xf,zI zL xm,zI zL xr,zI zL xy,.slice xq xk xc,zI zL yo,zI zL ya,.string ys,zI zL yn,zI zL yd,.bool yf,zI zL ym,zI zL yr,zI zL yy,.slice yq yk yc] 36)) bly (zI zL yo) (zI zL ya) (.string ys) (zI zL yn) (zI zL yd) (.bool yf) (zI zL ym) (zI zL yr) (zI zL yy) (.slice yq yk yc)/\(VE.alloc (.cells #[zI zL xo,zI zL xa,.string xs,zI zL xn,zI zL xd,.bool xf,zI zL xm,zI zL xr,zI zL xy,.slice xq xk xc,zI zL yo,zI zL ya,.string ys,zI zL yn,zI zL yd,.bool yf,zI zL ym,zI zL yr,zI zL yy,.slice yq yk yc] 36)).cell? ⟨b6,j,none⟩=some (zI zL op)):=⟨Xx.out,Xy.out,HC.out _ S6.out⟩
    clear hb4 hsl hslz
    generalize (VE.alloc (.cells #[zI zL xo,zI zL xa,.string xs,zI zL xn,zI zL xd,.bool xf,zI zL xm,zI zL xr,zI zL xy,.slice xq xk xc,zI zL yo,zI zL ya,.string ys,zI zL yn,zI zL yd,.bool yf,zI zL ym,zI zL yr,zI zL yy,.slice yq yk yc] 36))=VF at *
    generalize VE.heap.size=sl at *
    refine hK.out _ _ ?_ (fun hHeld=>?_)
    ·exact hS
    clear hK K
    try simp only[Act.put,zA,zB,zC]
    refine tk8 (v:= .agg #[zI zL op,zI zL at0,.string ⟨#[]⟩,zI zL 0,zI zL 0,.bool false,zI zL 0,zI zL 0,zI zL 0,.slice (some ⟨sl,0,none⟩) 2 2]) zab zab zab (fun _ _ _ h=>h) (Or.inl ⟨zab,?_⟩) hS ?_
    ·intro w' hSw
     go_simp;try with_reducible rfl
    simp only[Act.put,zA,zB,zC]
    exact zz3
end Go.Proofs.YtnjfolljbfkojaaGreatDoor
