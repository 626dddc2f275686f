import Derived.Test.YtnjfolljbfkojaaGreatDoorMBJ
import Derived.Test.YtnjfolljbfkojaaGreatDoorMBH
set_option maxRecDepth 100000
set_option maxHeartbeats 20000000
namespace Go.Proofs.YtnjfolljbfkojaaGreatDoor
open Go.Value renaming int→zI
open Go.IntKind renaming i64→zL
open Go.Lib renaming hid→zH
open Go.RowKit Lx Pa
def byR (l:List UInt8):By:=match lex Vh l with
 | .ok ts=>parse M0 ts
 | .er E _=>⟨[],[],[(E,0)]⟩
def bY (l:List UInt8):Nat->Int:=match lex Vh l with
 | .ok ts=>ag ts l.length
 | .er _ a=>fun _=>a
theorem nZ (args:Array Value)(w:World):(callFunc 15 args).run Tryz.prog w = .ok (.enter 15 args) w:=zab
theorem Av (s:ByteArray)(hs:s.size<=281474976710656)(ts:List Tok)(h:lex Vh s.data.toList = .ok ts)(sb pb:Nat)(w:World)(h1:w.cell? ⟨sb,0,none⟩=some (.string s))(h2:w.cell? ⟨pb,0,none⟩=some (.pointer none))(h3:w.frozen? ⟨pb,0,none⟩=false) :
  Calls Tryz.prog 15 #[.pointer (some ⟨sb,0,none⟩),.pointer (some ⟨pb,0,none⟩)] w fun e w'=>e = .returned (.tuple #[])/\∃b p cap qb mb,w'.cell? ⟨pb,0,none⟩=some (.pointer (some ⟨b,0,none⟩))/\Rd w' b p cap qb ts s.size mb 0/\w.heap.size<=b/\Kept pb w w':=by
 have KN:=zH (fun w=>kw s hs ts h w)
 have hpb:pb<w.heap.size:=World.block_lt_of_cell? _ _ h2
 have H2:=zH h2
 have H3:=zH h3
 clear h h2 h3
 go_enter Tryz.func15,Tryz.ntmps15
 go_wp2_with fail
 refine(KN.out _).mono ?_
 rintro _ v ⟨b,p,cap,qb,mb,rfl,hrd,hbw,hb⟩
 have c0:=(hb.cell (p:=⟨pb,0,none⟩) hpb).trans H2.out
 have f0:=(World.frozen?_of_block (a:=⟨pb,0,none⟩) (hb.block pb hpb)).trans H3.out
 have HB:=zH hb
 have HRD:=zH hrd
 have HBW:=zH hbw
 clear hb hrd hbw KN h1
 go_wp2_with fail
 go_end0
 have hrd:=HRD.out
 have hbw:=HBW.out
 refine⟨rfl,b,p,cap,qb,mb,World.cell?_setCell_same _ _ _ c0,hrd.other pb 0 none _ ⟨zac,?_,?_⟩,hbw,(Kept.of HB.out).setCell 0 none _⟩
 ·intro e
  have:=hrd.mp
  rw[<-e] at this
  simp[World.cell?,this,kP] at c0
 ·intro z e
  have h5:=hrd.tk.cells 0 z
  rw[<-e] at h5
  have h6:=h5.1
  simp only[Nat.zero_mul,Nat.add_zero] at h6
  rw[c0] at h6
  cases h6
theorem Ak (s:ByteArray)(hs:s.size<=281474976710656)(E:Int)(a:Nat)(h:lex Vh s.data.toList = .er E a)(sb pb:Nat)(w:World)(h1:w.cell? ⟨sb,0,none⟩=some (.string s)) :
  Calls Tryz.prog 15 #[.pointer (some ⟨sb,0,none⟩),.pointer (some ⟨pb,0,none⟩)] w fun e w'=>e = .panicked (gK E a)/\RowKit.Below w.heap.size w w':=by
 have KN:=zH (fun w=>nz s hs E a h w)
 clear h
 go_enter Tryz.func15,Tryz.ntmps15
 exact Ea
theorem mE {G:World}{k n:Nat}(a E:Int)(ofs:Nat->Int)(h:G.heap[k]? = some (.cells #[zI zL a,zI zL E] 53))(hn:n<=k)(ho:ofs 0=a:=by rfl):ByV G n ofs ⟨[],[],[(E,0)]⟩ aB aB (.slice (some ⟨k,0,none⟩) 1 1):=by
 subst ho
 exact⟨(fun e=>by cases e),fun _=>⟨rfl,rfl,rfl,.inr ⟨k,1,_,rfl,hn,h,Nat.le_refl _,zah,rfl,rfl⟩⟩⟩
section
variable {w w':World} {lo lo':Nat} {ofs:Nat->Int} {c:By} {vd vr vg:Value}
theorem oU {E size n:Nat}{v:Value}{xs:List Value}(h:w.ownsRow lo E size v n xs):∃q n c,v = .slice q n c:=by
 obtain⟨q,c,e⟩:=aF h
 exact⟨q,n,c,e⟩
theorem FM (h:ByV w lo ofs c vd vr vg):∃q n c,vd = .slice q n c:=by
 by_cases he:c.es=[]
 ·exact oU (h.1 he).2.1
 ·exact⟨none,0,0,(h.2 he).1⟩
theorem Fg (h:ByV w lo ofs c vd vr vg):∃q n c,vr = .slice q n c:=by
 by_cases he:c.es=[]
 ·obtain⟨ns,_,h,_⟩:=(h.1 he).2.2
  exact oU h
 ·exact⟨none,0,0,(h.2 he).2.1⟩
theorem FO (h:ByV w lo ofs c vd vr vg):∃q n c,vg = .slice q n c:=by
 by_cases he:c.es=[]
 ·exact⟨none,0,0,(h.1 he).1⟩
 ·exact oU (h.2 he).2.2
theorem ByV.keep (h:ByV w lo ofs c vd vr vg)(hl:lo'<=lo)(hs:w.heap.size<=w'.heap.size)(hb:∀j,lo<=j->j<w.heap.size->w'.heap[j]? = w.heap[j]?):ByV w' lo' ofs c vd vr vg:=by
 have ho:∀{E size n:Nat} {v:Value} {xs:List Value},w.ownsRow lo E size v n xs->w'.ownsRow lo' E size v n xs:=fun h=>jD (aR h (fun j hj hj2=>hb j (h.lt j hj).1 hj2)) hl
 refine⟨fun he=>?_,fun he=>⟨(h.2 he).1,(h.2 he).2.1,ho (h.2 he).2.2⟩⟩
 obtain⟨h1,h2,ns,h3,h4,h5⟩:=h.1 he
 exact⟨h1,ho h2,ns,h3,ho h4,fun i a b=>⟨NodeA.keep hs hb (fun j (hj:lo<=j) _=>(by show lo'<=j;omega)) _ _ (h5 i a b).1,NodeA.keep hs hb (fun j (hj:lo<=j) _=>(by show lo'<=j;omega)) _ _ (h5 i a b).2⟩⟩
end
def EG (w0:World)(l:List UInt8)(e:Ending)(w':World):Prop:=∃vd vr vg,e = .returned (.tuple #[.agg #[vd,vr],vg])/\ByV w' w0.heap.size (bY l) (byR l) vd vr vg/\RowKit.Below w0.heap.size w0 w'
theorem vH (s:ByteArray)(hs:s.size<=281474976710656)(w:World):Calls Tryz.prog 5 #[.string s] w fun e w'=>EG w s.data.toList e w':=by
 have hmf:∀(fn:Fn) (first cap:Array Value) (w:World),(Instr.makeFunc fn first cap).run Tryz.prog w = .ok (.func fn first cap) w:=fun _ _ _ _=>rfl
 obtain⟨l,hl⟩:∃l,l=s.data.toList:=⟨_,rfl⟩
 have hsz:s.size=l.length:=by rw[hl,ay]
 obtain⟨n,hn⟩:∃n,n=w.heap.size:=⟨_,rfl⟩
 obtain⟨W,hW⟩:∃W,W=(((w.alloc (.cells #[.string s] 9)).alloc (.cells #[aB,aB] 26)).alloc (.cells #[.pointer none] 54)):=⟨_,rfl⟩
 have h1:∀(v:World) (o:Obj),RowKit.Below v.heap.size v (v.alloc o):=fun v o=>(Below.refl _ _).alloc (Nat.le_refl _) o
 have s1:∀(v:World) (o:Obj),(v.alloc o).heap.size=v.heap.size+1:=fun v o=>by simp
 have HBW:Hid (RowKit.Below n w W):=by
  show RowKit.Below _ _ _
  rw[hW,hn]
  exact Cv
 have C0:Hid (W.cell? ⟨n,0,none⟩=some (.string s)):=by
  show _=_
  rw[hW,hn,aW _ _ _ (by show w.heap.size<_;rw[s1,s1];omega),aW _ _ _ (by show w.heap.size<_;rw[s1];omega)];simp
 have R0:Hid (At2 W (n+1) aB aB):=by
  have:=(At2.new (w.alloc (.cells #[.string s] 9)) aB aB 26).bel (h1 _ (.cells #[.pointer none] 54))
  rw[s1,<-hn] at this
  show At2 _ _ _ _
  rw[hW];exact this
 have hsW:W.heap.size=n+3:=by rw[hW,s1,s1,s1,hn]
 have P0:Hid (W.cell? ⟨n+1+1,0,none⟩=some (.pointer none)/\W.frozen? ⟨n+1+1,0,none⟩=false):=by
  show _/\_
  have e:n+1+1=((w.alloc (.cells #[.string s] 9)).alloc (.cells #[aB,aB] 26)).heap.size:=by rw[s1,s1,hn]
  have nb:∀v:World,(v.alloc (.cells #[.pointer none] 54)).cell? ⟨v.heap.size,0,none⟩=some (.pointer none)/\(v.alloc (.cells #[.pointer none] 54)).frozen? ⟨v.heap.size,0,none⟩=false:=fun v=>⟨by simp,by simp⟩
  rw[hW,e]
  exact nb _
 have bd:=h1 W (.cells #[zI zL 0,zI zL 0] 53)
 have D0:=zH (At2.new W (zI zL 0) (zI zL 0) 53)
 have C1:=(bd.cell (p:=⟨n,0,none⟩) (by show n<_;omega)).trans C0.out
 have P1:=(bd.cell (p:=⟨n+1+1,0,none⟩) (by show n+1+1<_;omega)).trans P0.out.1
 have P2:=(World.frozen?_of_block (a:=⟨n+1+1,0,none⟩) (bd.block (n+1+1) zac)).trans P0.out.2
 have sD:=s1 W (.cells #[zI zL 0,zI zL 0] 53)
 rw[<-hl]
 have HN:=zH hn
 clear hn
 cases hx:lex Vh l with
 | er E a =>
  have hby:byR l=⟨[],[],[(E,0)]⟩:=by unfold byR;rw[hx]
  have hof:bY l=fun _=>(a:Int):=by unfold bY;rw[hx]
  have hE:(E==0)=false:=by simpa using (lm hx).1
  have KE:=zH (gF 15 #[.pointer (some ⟨n,0,none⟩),.pointer (some ⟨n+1+1,0,none⟩)] nZ E a (fun w'=>RowKit.Below (n+3) W w') W
   ((Ak s hs E a (by rw[<-hl];exact hx) _ _ _ C1).mono (by
    rintro e w' ⟨he,hb⟩
    exact⟨he,D0.out.bel hb,bd.mono zac |>.trans (hb.mono zac)⟩)))
  have HBY:=zH hby
  have HOF:=zH hof
  clear h1 s1 bd C1 P1 P2 hl hx hsz hby hof P0 D0 sD C0
  go_enter Tryz.func5,Tryz.ntmps5
  go_wp2_with fail
  rw[<-hW,<-HN.out]
  clear hW
  refine KE.out.mono ?_
  rintro _ v ⟨rfl,v2,hb,hk⟩
  have HBv:=zH (hb.trans (hk.below (B:=n+3) zac (by have:=hb.size;omega)))
  have R1:=zH (R0.out.heap (HBv.out.block (n+1) zac))
  have DX:=zH (At2.new v (zI zL (a:Int)) (zI zL E) 53)
  have bx:=(Below.refl v.heap.size v).alloc (Nat.le_refl _) (.cells #[zI zL (a:Int),zI zL E] 53)
  have hsv:=HBv.out.size
  have R2:=zH (R1.out.bel bx)
  have HB2:=zH ((HBW.out.trans (HBv.out.mono zac)).trans (bx.mono zac))
  clear hb hk bx R1 R0 HBv HBW KE
  go_wp2_with fail
  have HVs:(v.alloc (.cells #[zI zL (a:Int),zI zL E] 53)).heap.size=v.heap.size+1:=by simp
  generalize v.alloc (.cells #[zI zL (a:Int),zI zL E] 53)=V at *
  generalize v.heap.size=db at *
  have hS:V.drew.cell? ⟨db,0,none⟩=some (zI zL (a:Int))/\V.drew.cell? ⟨db,1,none⟩=some (zI zL E):=⟨DX.out.c0,DX.out.c1⟩
  refine wp_region_held (S:=fun w':World=>w'.cell? ⟨db,0,none⟩=some (zI zL (a:Int))/\w'.cell? ⟨db,1,none⟩=some (zI zL E)) mixed ?_
  change wpAnyH _ _ _ _ _ _ _ _ V.drew
  refine tk0 (v:=?_) zab zab zab (fun _ _ _ h=>h) (Or.inl ⟨by rfl,?_⟩) hS ?_
  rotate_left
  ·(intro w hSw;(try dsimp only at hSw);go_simp;try with_reducible rfl)
  simp only[Act.put,zA,zB,zC]
  refine tk1 (v:=?_) zab zab zab (fun _ _ _ h=>h) (Or.inl ⟨by rfl,?_⟩) hS ?_
  rotate_left
  ·(intro w hSw;(try dsimp only at hSw);go_simp;try with_reducible rfl)
  simp only[Act.put,zA,zB,zC]
  have hdr:=(Below.refl V.heap.size V).drew
  have R3:=zH (R2.out.bel hdr)
  have HB3:=zH (HB2.out.drew)
  have D3:=zH (DX.out.bel hdr)
  have ba:=(Below.refl V.drew.heap.size V.drew).alloc (Nat.le_refl _) (.cells #[zI zL (a:Int),zI zL E] 53)
  have hVd:V.drew.heap.size=V.heap.size:=rfl
  have ND:db≠n+1:=zac
  obtain⟨r0,r1,g0,g1⟩:=R2.out
  refine wpAnyH_ready (rs:=[2,3]) zab (by simp) (st2 (fun K hK=>?_) (st3 (fun K hK=>?_) AllReadyH.nil))
  ·go_simp
   have DA:=D3.out.bel ba
   refine hK.out _ _ ?_ (fun hHeld=>?_)
   ·exact⟨DA.c0,DA.c1⟩
   clear hK K
   try simp only[Act.put,zA,zB,zC]
   obtain⟨q0,q1,p0,p1⟩:=R2.out.bel ((Below.refl V.heap.size V).alloc (Nat.le_refl _) (.cells #[zI zL (a:Int),zI zL E] 53))
   refine wpAnyH_ready (rs:=[3]) zab (by simp) (st3 (fun K hK=>?_) AllReadyH.nil)
   go_simp
   have DB:=(DA.other ND 0 aB).other ND 1 aB
   refine hK.out _ _ ?_ (fun hHeld=>?_)
   ·exact⟨DB.c0,DB.c1⟩
   clear hK K
   try simp only[Act.put,zA,zB,zC]
   refine wpAnyH_ready (rs:=[4]) zab (by simp) (st4 (fun K hK=>?_) AllReadyH.nil)
   go_simp
   refine hK.out _ _ ?_ (fun hHeld=>?_)
   ·exact⟨DB.c0,DB.c1⟩
   clear hK K
   try simp only[Act.put,zA,zB,zC]
   refine wpAnyH_done zab ?_ _
   go_wp2_with fail
   refine(?_:∀G:World,At2 G (n+1) aB aB->ByV G n (bY l) (byR l) aB aB (.slice (some ⟨V.heap.size,0,none⟩) 1 1)->RowKit.Below n w G->bodyPost _ _ _ _ _ G) _ ?_ ?_ ?_
   ·exact Dz
   ·exact(R3.out.bel ba).put aB aB
   ·rw[HBY.out,HOF.out]
    exact mE _ _ _ ((Below.heap_setCell _ _ _ _ (by show V.heap.size≠n+1;omega)).trans ((Below.heap_setCell _ _ _ _ (by show V.heap.size≠n+1;omega)).trans (heap_alloc_last V.drew _))) zac
   ·exact((HB3.out.trans (ba.mono zac)).setCell (p:=⟨n+1,0,none⟩) (by show n<=n+1;omega) _).setCell (p:=⟨n+1,1,none⟩) (by show n<=n+1;omega) _
  ·go_simp
   have DA:=(D3.out.other ND 0 aB).other ND 1 aB
   refine hK.out _ _ ?_ (fun hHeld=>?_)
   ·exact⟨DA.c0,DA.c1⟩
   clear hK K
   try simp only[Act.put,zA,zB,zC]
   refine wpAnyH_ready (rs:=[2]) zab (by simp) (st2 (fun K hK=>?_) AllReadyH.nil)
   go_simp
   have DB:=DA.bel ((Below.refl _ _).alloc (Nat.le_refl _) (.cells #[zI zL (a:Int),zI zL E] 53))
   refine hK.out _ _ ?_ (fun hHeld=>?_)
   ·exact⟨DB.c0,DB.c1⟩
   clear hK K
   try simp only[Act.put,zA,zB,zC]
   refine wpAnyH_ready (rs:=[4]) zab (by simp) (st4 (fun K hK=>?_) AllReadyH.nil)
   go_simp
   refine hK.out _ _ ?_ (fun hHeld=>?_)
   ·exact⟨DB.c0,DB.c1⟩
   clear hK K
   try simp only[Act.put,zA,zB,zC]
   refine wpAnyH_done zab ?_ _
   go_wp2_with fail
   refine(?_:∀G:World,At2 G (n+1) aB aB->ByV G n (bY l) (byR l) aB aB (.slice (some ⟨V.heap.size,0,none⟩) 1 1)->RowKit.Below n w G->bodyPost _ _ _ _ _ G) _ ?_ ?_ ?_
   ·exact Dz
   ·exact(R3.out.put aB aB).bel (by
     have:=(Below.refl ((V.drew.setCell ⟨n+1,0,none⟩ aB).setCell ⟨n+1,1,none⟩ aB).heap.size ((V.drew.setCell ⟨n+1,0,none⟩ aB).setCell ⟨n+1,1,none⟩ aB)).alloc (Nat.le_refl _) (.cells #[zI zL (a:Int),zI zL E] 53)
     exact this)
   ·rw[HBY.out,HOF.out]
    refine mE _ _ _ ?_ zac
    have:=heap_alloc_last ((V.drew.setCell ⟨n+1,0,none⟩ aB).setCell ⟨n+1,1,none⟩ aB) (.cells #[zI zL (a:Int),zI zL E] 53)
    simp only[World.size_setCell] at this
    exact this
   ·exact((HB3.out.setCell (p:=⟨n+1,0,none⟩) (by show n<=n+1;omega) _).setCell (p:=⟨n+1,1,none⟩) (by show n<=n+1;omega) _).alloc (by simp;show n<=V.heap.size;omega) _
 | ok ts =>
  have hby:byR l=parse M0 ts:=by unfold byR;rw[hx]
  have hof:bY l=ag ts s.size:=by unfold bY;rw[hx,hsz]
  have KE:=zH (gT 15 #[.pointer (some ⟨n,0,none⟩),.pointer (some ⟨n+1+1,0,none⟩)] nZ (fun w'=>∃b p cap qb mb,w'.cell? ⟨n+1+1,0,none⟩=some (.pointer (some ⟨b,0,none⟩))/\Rd w' b p cap qb ts s.size mb 0/\n+3<=b/\Kept (n+1+1) W w') W
   ((Av s hs ts (by rw[<-hl];exact hx) _ _ _ C1 P1 P2).mono (by
    rintro e w' ⟨he,b,p,cap,qb,mb,hc,hrd,hbw,hk⟩
    exact⟨he,D0.out.heap (hk.block W.heap.size zac zac),b,p,cap,qb,mb,hc,hrd,zac,(Kept.of bd).trans hk⟩)))
  have HBY:=zH hby
  have HOF:=zH hof
  clear h1 s1 bd C1 P1 P2 hl hx hsz hby hof P0 D0 sD C0
  go_enter Tryz.func5,Tryz.ntmps5
  go_wp2_with fail
  rw[<-hW,<-HN.out]
  clear hW
  refine KE.out.mono ?_
  rintro _ v ⟨rfl,v2,⟨b,p,cap,qb,mb,hc,hrd,hbw,hk⟩,hB⟩
  have bx:=(Below.refl v.heap.size v).alloc (Nat.le_refl _) (.cells #[zI zL 0,zI zL 0] 53)
  have hRD:=zH ((hrd.bel hB).bel bx)
  have hpl:=World.block_lt_of_cell? _ _ hc
  simp only at hpl
  have c0:=(bx.cell (p:=⟨n+1+1,0,none⟩) (by show n+1+1<_;have:=hB.size;omega)).trans ((hB.cell (p:=⟨n+1+1,0,none⟩) hpl).trans hc)
  have hsv:=hk.size
  have hsv2:=hB.size
  have R1:=zH (((R0.out.heap (hk.block (n+1) zac zac)).bel hB).bel bx)
  have HB2:=zH ((HBW.out.trans (hk.below (B:=n) zac zac)).trans ((hB.mono zac).trans (bx.mono zac)))
  clear hrd hc hk hB bx R0 HBW KE
  go_wp2_with fail
  have hVs:(v.alloc (.cells #[zI zL 0,zI zL 0] 53)).heap.size=v.heap.size+1:=by simp
  generalize v.alloc (.cells #[zI zL 0,zI zL 0] 53)=V at *
  refine(rP V hRD.out).mono ?_
  rintro _ u ⟨vd,vr,vg,rfl,hV,hK⟩
  have HV:=zH hV
  have R2:=zH (R1.out.heap (hK.block (n+1) R1.out.lt zac))
  have HB3:=zH (HB2.out.trans (hK.below (B:=n) zac (by have:=R1.out.lt;omega)))
  clear hV hK R1 HB2 hRD c0
  obtain⟨r0,r1,g0,g1⟩:=R2.out
  obtain⟨dq,dn,dc,rfl⟩:∃q n c,vd = .slice q n c:=FM HV.out
  obtain⟨rq,rn,rc,rfl⟩:∃q n c,vr = .slice q n c:=Fg HV.out
  obtain⟨gq,gn,gc,rfl⟩:∃q n c,vg = .slice q n c:=FO HV.out
  go_wp2_with fail
  refine(?_:∀G:World,At2 G (n+1) (.slice dq dn dc) (.slice rq rn rc)->ByV G n (bY l) (byR l) (.slice dq dn dc) (.slice rq rn rc) (.slice gq gn gc)->RowKit.Below n w G->bodyPost _ _ _ _ _ G) _ (R2.out.put _ _) ?_ ?_
  ·intro G hG hV hB
   obtain⟨y0,y1,-,-⟩:=hG
   exact bodyPost_ret (v:= .tuple #[.agg #[.slice dq dn dc,.slice rq rn rc],.slice gq gn gc]) (by simp[results,Tryz.results5,go_sem,y0,y1]) rfl ⟨_,_,_,rfl,by rw[<-HN.out];exact hV,by rw[<-HN.out];exact hB⟩
  ·rw[HBY.out,HOF.out]
   exact HV.out.keep (lo':=n) zac zbb (fun j hj _=>(Below.heap_setCell _ _ _ _ (by show j≠n+1;omega)).trans (Below.heap_setCell _ _ _ _ (by show j≠n+1;omega)))
  ·exact(HB3.out.setCell (p:=⟨n+1,0,none⟩) (by show n<=n+1;omega) _).setCell (p:=⟨n+1,1,none⟩) (by show n<=n+1;omega) _
def eqR (t:Bool)(f g:Nat->Int)(r r':Rule):Prop:=r.name=r'.name/\r.ver=r'.ver/\r.kind=r'.kind/\r.act=r'.act/\r.fr=r'.fr/\r.un=r'.un/\r.known=r'.known/\(t=true->f r.pl=g r'.pl)/\eqT t f g r.whn r'.whn=true/\eqT t f g r.give r'.give=true
theorem zQ (ofs:Nat->Int)(r:Rule)(x y:NV):(rV ofs r x y).length=28:=rfl
theorem jf (t:Bool)(f g:Nat->Int)(r r':Rule)(A A':Nat->Prop)(x y x' y':NV)(w:World)(hx:NodeA w A f r.whn x)(hy:NodeA w A f r.give y)(hx':NodeA w A' g r'.whn x')(hy':NodeA w A' g r'.give y')(hw:r.whn.siz<=1000000)(hg:r.give.siz<=1000000)(hR:eqR t f g r r') :
  Calls Tryz.prog 13 #[.agg (rV f r x y).toArray,.agg (rV g r' x' y').toArray,.bool t] w fun e w'=>e = .returned (.bool true)/\RowKit.Below w.heap.size w w':=by
 obtain⟨nm,ver,kd,act,fr,un,kn,wh,gi,pl⟩:=r
 obtain⟨nm',ver',kd',act',fr',un',kn',wh',gi',pl'⟩:=r'
 simp only at hx hy hx' hy' hw hg
 have KX:=zH (fun w h1 h2=>jm t f g _ wh wh' (Nat.le_refl _) hw A A' x x' w h1 h2)
 have KY:=zH (fun w h1 h2=>jm t f g _ gi gi' (Nat.le_refl _) hg A A' y y' w h1 h2)
 obtain⟨e1,e2,e3,e4,e5,e6,e7,hat,e8,e9⟩:=hR
 simp only at e1 e2 e3 e4 e5 e6 e7 e8 e9 hat
 subst e1 e2 e3 e4 e5 e6 e7
 rw[e8] at KX
 rw[e9] at KY
 clear e8 e9
 obtain⟨W,hW⟩:∃W,W=(w.alloc (.cells (rV f ⟨nm,ver,kd,act,fr,un,kn,wh,gi,pl⟩ x y).toArray 49)).alloc (.cells (rV g ⟨nm,ver,kd,act,fr,un,kn,wh',gi',pl'⟩ x' y').toArray 49):=⟨_,rfl⟩
 have b1:=(Below.refl w.heap.size w).alloc (Nat.le_refl _) (.cells (rV f ⟨nm,ver,kd,act,fr,un,kn,wh,gi,pl⟩ x y).toArray 49)
 have s1:(w.alloc (.cells (rV f ⟨nm,ver,kd,act,fr,un,kn,wh,gi,pl⟩ x y).toArray 49)).heap.size=w.heap.size+1:=by simp
 have b2:=(Below.refl _ (w.alloc (.cells (rV f ⟨nm,ver,kd,act,fr,un,kn,wh,gi,pl⟩ x y).toArray 49))).alloc (Nat.le_refl _) (.cells (rV g ⟨nm,ver,kd,act,fr,un,kn,wh',gi',pl'⟩ x' y').toArray 49)
 have D1:Hid (aH W w.heap.size (rV f ⟨nm,ver,kd,act,fr,un,kn,wh,gi,pl⟩ x y)):=by
  show aH _ _ _
  rw[hW]
  exact(aH.new w (rV f ⟨nm,ver,kd,act,fr,un,kn,wh,gi,pl⟩ x y) 49).of (b2.block _ zac)
 have D2:Hid (aH W (w.heap.size+1) (rV g ⟨nm,ver,kd,act,fr,un,kn,wh',gi',pl'⟩ x' y')):=by
  have:=aH.new (w.alloc (.cells (rV f ⟨nm,ver,kd,act,fr,un,kn,wh,gi,pl⟩ x y).toArray 49)) (rV g ⟨nm,ver,kd,act,fr,un,kn,wh',gi',pl'⟩ x' y') 49
  rw[s1] at this
  show aH _ _ _
  rw[hW];exact this
 have HB:Hid (RowKit.Below w.heap.size w W):=by show RowKit.Below _ _ _;rw[hW];exact b1.trans (b2.mono zac)
 have HX:=zH (NodeA.bel HB.out _ _ hx)
 have HY:=zH (NodeA.bel HB.out _ _ hy)
 have HX':=zH (NodeA.bel HB.out _ _ hx')
 have HY':=zH (NodeA.bel HB.out _ _ hy')
 clear hx hy hx' hy' hw hg b1 b2 s1
 go_enter Tryz.func13,Tryz.ntmps13
 refine az (fun a v=>a={ tmps:=#[.agg (rV f ⟨nm,ver,kd,act,fr,un,kn,wh,gi,pl⟩ x y).toArray,.agg (rV g ⟨nm,ver,kd,act,fr,un,kn,wh',gi',pl'⟩ x' y').toArray,.bool t,.pointer (some ⟨w.heap.size,0,none⟩),.pointer (some ⟨w.heap.size+1,0,none⟩),undef,.bool false,undef,undef,undef,undef,undef,undef,undef,undef,undef,undef,undef,undef,undef,undef,undef,undef,undef,undef,undef,undef,undef,undef,undef,undef,undef,undef,undef,undef,undef,undef,undef,undef,undef,undef,undef,undef,undef,undef,undef,undef,undef,undef,undef,undef,undef,undef,undef,undef,undef,undef,undef,undef,undef,undef,undef,undef,undef,undef,undef,undef,undef,undef,undef,undef,undef,undef,undef],defers:=[] }/\v=W) ?_ ?_
 rotate_left
 ·intro J K hJ hK
  have HJ:=zH hJ
  clear hJ
  go_wp2_with fail
  exact Handed.intro 0 zah (HJ.out 0 _ _ ⟨rfl,hW.symm⟩)
 rintro _ V ⟨rfl,hV⟩
 obtain rfl:W=V:=hV.symm
 clear hW
 generalize Value.agg (rV f ⟨nm,ver,kd,act,fr,un,kn,wh,gi,pl⟩ x y).toArray=zz1
 generalize Value.agg (rV g ⟨nm,ver,kd,act,fr,un,kn,wh',gi',pl'⟩ x' y').toArray=zz2
 generalize w.heap.size+1=n1 at *
 generalize hn0:w.heap.size=n0 at *
 have HN0:=zH hn0
 clear hn0
 obtain⟨xo,xa,xs,xn,xd,xf,xm,xr,xy,xq,xk,xc⟩:=x
 obtain⟨yo,ya,ys,yn,yd,yf,ym,yr,yy,yq,yk,yc⟩:=y
 obtain⟨uo,ua,us,un1,ud,uf,um,ur,uy,uq,uk,uc⟩:=x'
 obtain⟨vo,va,vs,vn,vd,vf,vm,vr,vy,vq,vk,vc⟩:=y'
 unfold nv at KX KY
 have c0:W.cell? ⟨n0,0,none⟩=some (.string (bs nm)):=(D1.out 0 _ rfl).1
 have c1:W.cell? ⟨n0,1,none⟩=some (zI zL ver):=(D1.out 1 _ rfl).1
 have c2:W.cell? ⟨n0,2,none⟩=some (zI zL (kd:Nat)):=(D1.out 2 _ rfl).1
 have c3:W.cell? ⟨n0,3,none⟩=some (.string (bs act)):=(D1.out 3 _ rfl).1
 have c4:W.cell? ⟨n0,4,none⟩=some (zI zL fr):=(D1.out 4 _ rfl).1
 have c5:W.cell? ⟨n0,5,none⟩=some (zI zL un):=(D1.out 5 _ rfl).1
 have c6:W.cell? ⟨n0,6,none⟩=some (zI zL kn):=(D1.out 6 _ rfl).1
 have c7:W.cell? ⟨n0,7,none⟩=some (zI zL xo):=(D1.out 7 _ rfl).1
 have c8:W.cell? ⟨n0,8,none⟩=some (zI zL xa):=(D1.out 8 _ rfl).1
 have c9:W.cell? ⟨n0,9,none⟩=some (.string xs):=(D1.out 9 _ rfl).1
 have c10:W.cell? ⟨n0,10,none⟩=some (zI zL xn):=(D1.out 10 _ rfl).1
 have c11:W.cell? ⟨n0,11,none⟩=some (zI zL xd):=(D1.out 11 _ rfl).1
 have c12:W.cell? ⟨n0,12,none⟩=some (.bool xf):=(D1.out 12 _ rfl).1
 have c13:W.cell? ⟨n0,13,none⟩=some (zI zL xm):=(D1.out 13 _ rfl).1
 have c14:W.cell? ⟨n0,14,none⟩=some (zI zL xr):=(D1.out 14 _ rfl).1
 have c15:W.cell? ⟨n0,15,none⟩=some (zI zL xy):=(D1.out 15 _ rfl).1
 have c16:W.cell? ⟨n0,16,none⟩=some (.slice xq xk xc):=(D1.out 16 _ rfl).1
 have c17:W.cell? ⟨n0,17,none⟩=some (zI zL yo):=(D1.out 17 _ rfl).1
 have c18:W.cell? ⟨n0,18,none⟩=some (zI zL ya):=(D1.out 18 _ rfl).1
 have c19:W.cell? ⟨n0,19,none⟩=some (.string ys):=(D1.out 19 _ rfl).1
 have c20:W.cell? ⟨n0,20,none⟩=some (zI zL yn):=(D1.out 20 _ rfl).1
 have c21:W.cell? ⟨n0,21,none⟩=some (zI zL yd):=(D1.out 21 _ rfl).1
 have c22:W.cell? ⟨n0,22,none⟩=some (.bool yf):=(D1.out 22 _ rfl).1
 have c23:W.cell? ⟨n0,23,none⟩=some (zI zL ym):=(D1.out 23 _ rfl).1
 have c24:W.cell? ⟨n0,24,none⟩=some (zI zL yr):=(D1.out 24 _ rfl).1
 have c25:W.cell? ⟨n0,25,none⟩=some (zI zL yy):=(D1.out 25 _ rfl).1
 have c26:W.cell? ⟨n0,26,none⟩=some (.slice yq yk yc):=(D1.out 26 _ rfl).1
 have c27:W.cell? ⟨n0,27,none⟩=some (zI zL (f pl)):=(D1.out 27 _ rfl).1
 have d0:W.cell? ⟨n1,0,none⟩=some (.string (bs nm)):=(D2.out 0 _ rfl).1
 have d1:W.cell? ⟨n1,1,none⟩=some (zI zL ver):=(D2.out 1 _ rfl).1
 have d2:W.cell? ⟨n1,2,none⟩=some (zI zL (kd:Nat)):=(D2.out 2 _ rfl).1
 have d3:W.cell? ⟨n1,3,none⟩=some (.string (bs act)):=(D2.out 3 _ rfl).1
 have d4:W.cell? ⟨n1,4,none⟩=some (zI zL fr):=(D2.out 4 _ rfl).1
 have d5:W.cell? ⟨n1,5,none⟩=some (zI zL un):=(D2.out 5 _ rfl).1
 have d6:W.cell? ⟨n1,6,none⟩=some (zI zL kn):=(D2.out 6 _ rfl).1
 have d7:W.cell? ⟨n1,7,none⟩=some (zI zL uo):=(D2.out 7 _ rfl).1
 have d8:W.cell? ⟨n1,8,none⟩=some (zI zL ua):=(D2.out 8 _ rfl).1
 have d9:W.cell? ⟨n1,9,none⟩=some (.string us):=(D2.out 9 _ rfl).1
 have d10:W.cell? ⟨n1,10,none⟩=some (zI zL un1):=(D2.out 10 _ rfl).1
 have d11:W.cell? ⟨n1,11,none⟩=some (zI zL ud):=(D2.out 11 _ rfl).1
 have d12:W.cell? ⟨n1,12,none⟩=some (.bool uf):=(D2.out 12 _ rfl).1
 have d13:W.cell? ⟨n1,13,none⟩=some (zI zL um):=(D2.out 13 _ rfl).1
 have d14:W.cell? ⟨n1,14,none⟩=some (zI zL ur):=(D2.out 14 _ rfl).1
 have d15:W.cell? ⟨n1,15,none⟩=some (zI zL uy):=(D2.out 15 _ rfl).1
 have d16:W.cell? ⟨n1,16,none⟩=some (.slice uq uk uc):=(D2.out 16 _ rfl).1
 have d17:W.cell? ⟨n1,17,none⟩=some (zI zL vo):=(D2.out 17 _ rfl).1
 have d18:W.cell? ⟨n1,18,none⟩=some (zI zL va):=(D2.out 18 _ rfl).1
 have d19:W.cell? ⟨n1,19,none⟩=some (.string vs):=(D2.out 19 _ rfl).1
 have d20:W.cell? ⟨n1,20,none⟩=some (zI zL vn):=(D2.out 20 _ rfl).1
 have d21:W.cell? ⟨n1,21,none⟩=some (zI zL vd):=(D2.out 21 _ rfl).1
 have d22:W.cell? ⟨n1,22,none⟩=some (.bool vf):=(D2.out 22 _ rfl).1
 have d23:W.cell? ⟨n1,23,none⟩=some (zI zL vm):=(D2.out 23 _ rfl).1
 have d24:W.cell? ⟨n1,24,none⟩=some (zI zL vr):=(D2.out 24 _ rfl).1
 have d25:W.cell? ⟨n1,25,none⟩=some (zI zL vy):=(D2.out 25 _ rfl).1
 have d26:W.cell? ⟨n1,26,none⟩=some (.slice vq vk vc):=(D2.out 26 _ rfl).1
 have d27:W.cell? ⟨n1,27,none⟩=some (zI zL (g pl')):=(D2.out 27 _ rfl).1
 cases t with
 | false =>
  go_wp2_with fail
  exact zz31
 | true =>
  rw[<-hat rfl] at d27
  go_wp2_with fail
  exact zz31
def hs1:List UInt8:=[102,97,99,116,32,114,111,111,109,115,58,32,110,117,109,98,101,114,32,49,32,116,111,32,53,59,32,99,104,97,114,103,101,32,114,101,110,116,32,49,32,102,114,111,109,32,48,32,107,110,111,119,110,32,48,32,103,105,118,101,32,114,111,111,109,115,32,42,32,49,50,46,53,48,32,109,111,110,101,121,59]
def hs2:List UInt8:=[99,104,97,114,103,101,32,114,101,110,116,32,49,46,53,32,102,114,111,109,32,48,32,107,110,111,119,110,32,48,59]
def hs3:List UInt8:=[100,117,116,121,32,120,32,49,32,102,114,111,109,32,48,59]
def hs4:List UInt8:=[97,32,62,32,98,32,43,32,49]
def hs5:List UInt8:=[97,32,43]
def hD:Decl:=⟨[114,111,111,109,115],1,1,5,21⟩
def hR:Rule:=⟨[114,101,110,116],1,1,[],0,36525,0,.mk 17 13 [] 0 0 1 [],.mk 5 5 [] 0 0 1 [.mk 2 5 [114,111,111,109,115] 0 0 1 [],.mk 1 3 [] 1250 1 2 []],13⟩
def hN:Tree:= .mk 11 5 [] 0 0 1 [.mk 3 3 [] 0 0 1 [.mk 2 3 [98] 0 0 1 [],.mk 1 1 [] 1 1 1 []],.mk 2 5 [97] 0 0 1 []]
def hR':Rule:=⟨[114,101,110,116],1,1,[],0,36525,0,.mk 17 27 [] 0 0 1 [],.mk 5 61 [] 0 0 1 [.mk 2 61 [114,111,111,109,115] 0 0 1 [],.mk 1 69 [] 1250 1 2 []],27⟩
def hN':Tree:= .mk 11 0 [] 0 0 1 [.mk 3 4 [] 0 0 1 [.mk 2 4 [98] 0 0 1 [],.mk 1 8 [] 1 1 1 []],.mk 2 0 [97] 0 0 1 []]
def idO:Nat->Int:=fun k=>(k:Int)
theorem by1:byR hs1=⟨[hD],[hR],[]⟩:=zab
theorem by2:byR hs2=⟨[],[],[(3,6)]⟩:=zab
theorem by3:byR hs3=⟨[],[],[(10,1)]⟩:=zab
theorem of1:bY hs1 21=0/\bY hs1 13=27/\bY hs1 5=61/\bY hs1 3=69:=⟨zab,zab,zab,zab⟩
theorem of2:bY hs2 6=12:=zab
theorem of3:bY hs3 1=15:=zab
theorem eq1:eqR true (bY hs1) idO hR hR':=by
 refine⟨rfl,rfl,rfl,rfl,rfl,rfl,rfl,fun _=>of1.2.1,?_,?_⟩
 ·simp only[hR,hR',eqT,eqL,of1.2.1];decide
 ·simp only[hR,hR',eqT,eqL,of1.2.2.1,of1.2.2.2];decide
theorem ex4:ky hs4 = .ok hN (bY hs4):=zab
theorem of4:bY hs4 5=0/\bY hs4 3=4/\bY hs4 1=8:=⟨zab,zab,zab⟩
theorem ex5:ky hs5 = .er 10 3:=zab
theorem eq4:eqT true (bY hs4) idO hN hN'=true:=by
 simp only[hN,hN',eqT,eqL,of4.1,of4.2.1,of4.2.2];decide
def bI (w:World)(b:Nat)(l:List Value):Prop:=∀(j:Nat) (v:Value),l[j]? = some v->w.cell? ⟨b,j,none⟩=some v
theorem bI.of {w w1:World}{b:Nat}{l:List Value}(h:bI w b l)(hb:w1.heap[b]? = w.heap[b]?):bI w1 b l:=fun j v hv=>(World.cell?_of_block (w:=w) (a:=⟨b,j,none⟩) hb).trans (h j v hv)
theorem bI.lt {w:World}{b:Nat}{l:List Value}(h:bI w b l)(hl:0<l.length):b<w.heap.size:=World.block_lt_of_cell? _ _ (h 0 l[0] (List.getElem?_eq_getElem hl))
theorem bI.bel {w w1:World}{b:Nat}{l:List Value}(h:bI w b l)(hl:0<l.length)(hB:RowKit.Below w.heap.size w w1):bI w1 b l:=h.of (hB.block b (h.lt hl))
theorem jJ {w:World}{lo E size n:Nat}{v:Value}{xs:List Value}(h:w.ownsRow lo E size v n xs)(hn:0<n):∃g cap,v = .slice (some ⟨g,0,none⟩) n cap/\lo<=g/\g<w.heap.size/\bI w g xs/\n<=cap:=by
 rcases h.2 with ⟨_,h0⟩|⟨g,cap,cur,h1,h2,h3,h4,h5,h6,h7⟩
 ·omega
 ·refine⟨g,cap,h1,h2,(Array.getElem?_eq_some_iff.1 h3).1,fun j u hu=>?_,h4⟩
  rw[cell_of_row _ _ _ _ _ _ h3]
  rw[<-h7,List.getElem?_take] at hu
  split at hu
  ·rw[<-Array.getElem?_toList];exact hu
  ·cases hu
def EK (w0:World)(l:List UInt8)(e:Ending)(w':World):Prop:=RowKit.Below w0.heap.size w0 w'/\match ky l with
 | .ok n ofs=>∃x,e = .returned (.tuple #[nv x,zI zL 0,zI zL 0])/\ah w' w0.heap.size ofs n x/\n.siz<=200
 | .er E a=>e = .returned (.tuple #[nv ⟨0,0,⟨#[]⟩,0,0,false,0,0,0,none,0,0⟩,zI zL E,zI zL a])/\E≠0
theorem sM {ts r:List Tok}{n:Tree}(h:bJ M0 ts = .ok n r):n.siz<=200:=by
 unfold bJ at h
 obtain⟨a,r1,-,h⟩:=ai h
 split at h
 ·cases h
 ·split at h
  ·cases h
  ·rename_i hb
   cases h
   unfold big at hb
   simp only[Bool.or_eq_true,decide_eq_true_eq,not_or] at hb
   omega
theorem yD {ts:List Tok}{E:Int}{q m:Nat}(h:bJ M0 ts = .er E q m):E≠0:=by
 unfold bJ at h
 have g:=aX (M:=M0) .ex ts
 cases hr:rd M0 .ex ts with
 | er e k m' =>
  rw[hr] at h g
  cases h
  rcases g.1 with rfl|rfl|rfl<;>decide
 | ok a r =>
  rw[hr,bind_ok] at h
  unfold Pa.bad at h
  split at h
  ·cases h;decide
  ·split at h
   ·cases h;decide
   ·cases h
theorem nD (s:ByteArray)(hs:s.size<=281474976710656)(w:World):Calls Tryz.prog 7 #[.string s] w fun e w'=>EK w s.data.toList e w':=by
 have hsz:s.size=s.data.toList.length:=(ay s).symm
 cases hx:lex Vh s.data.toList with
 | er E a =>
  have he:ky s.data.toList = .er E a:=by unfold ky;rw[hx]
  unfold EK
  rw[he]
  refine(nK s hs E a a rfl hx w).mono ?_
  rintro e w' ⟨h1,h2⟩
  exact⟨h2,h1,(lm hx).1⟩
 | ok ts =>
  cases hn:bJ M0 ts with
  | ok n r =>
   have he:ky s.data.toList = .ok n (ag ts s.data.toList.length):=by unfold ky;rw[hx];simp only[hn]
   unfold EK
   rw[he]
   refine(qW s hs ts hx n r hn w).mono ?_
   rintro e w' ⟨x,h1,h2,h3⟩
   refine⟨h3,x,h1,?_,sM hn⟩
   rw[<-hsz];exact h2
  | er E q m =>
   have he:ky s.data.toList = .er E (ag ts s.data.toList.length q):=by unfold ky;rw[hx];simp only[hn]
   unfold EK
   rw[he]
   refine(nP s hs ts hx E q m (ag ts s.data.toList.length q) (by rw[hsz]) hn w).mono ?_
   rintro e w' ⟨h1,h2⟩
   exact⟨h2,h1,yD hn⟩
theorem EO {s:ByteArray}{l:List UInt8}{c:By}(w:World)(hs:s.data.toList=l)(hb:byR l=c)(hz:s.size<=281474976710656):Calls Tryz.prog 5 #[.string s] w fun e w'=>∃vd vr vg,e = .returned (.tuple #[.agg #[vd,vr],vg])/\ByV w' w.heap.size (bY l) c vd vr vg/\RowKit.Below w.heap.size w w':=by
 subst hs hb
 exact vH s hz w
theorem Fe {s:ByteArray}{l:List UInt8}{n:Tree}{ofs:Nat->Int}(w:World)(hs:s.data.toList=l)(hb:ky l = .ok n ofs)(hz:s.size<=281474976710656):Calls Tryz.prog 7 #[.string s] w fun e w'=>∃x,e = .returned (.tuple #[nv x,zI zL 0,zI zL 0])/\ah w' w.heap.size ofs n x/\RowKit.Below w.heap.size w w':=by
 subst hs
 refine(nD s hz w).mono ?_
 rintro e w' ⟨h1,h2⟩
 rw[hb] at h2
 obtain⟨x,h2,h3,_⟩:=h2
 exact⟨x,h2,h3,h1⟩
theorem Fp {s:ByteArray}{l:List UInt8}{E a:Int}(w:World)(hs:s.data.toList=l)(hb:ky l = .er E a)(hz:s.size<=281474976710656):Calls Tryz.prog 7 #[.string s] w fun e w'=>e = .returned (.tuple #[.agg #[zI zL 0,zI zL 0,.string ⟨#[]⟩,zI zL 0,zI zL 0,.bool false,zI zL 0,zI zL 0,zI zL 0,.slice none 0 0],zI zL E,zI zL a])/\RowKit.Below w.heap.size w w':=by
 subst hs
 refine(nD s hz w).mono ?_
 rintro e w' ⟨h1,h2⟩
 rw[hb] at h2
 exact⟨h2.1,h1⟩
theorem iX (w:World)(l:List Value)(T:Nat):bI (w.alloc (.cells l.toArray T)) w.heap.size l:=fun j v hv=>by
 rw[cell_of_row _ _ _ _ _ _ (heap_alloc_new w _),List.getElem?_toArray];exact hv
section
variable {P:Program} {ops:Array Oper} {rest:List Oper} {o:Oper} {a:Act} {w w':World} {Q:Exit->Act->World->Prop} {t:TypeId} {v:Value}
theorem tT {x:Operand}{y:Value}(hgd:o.guard=none)(ho:o.op = .load t x)(hx:a.eval x=y)(hr:(Instr.loadAt t y).run P w = .ok v w')(h:wpList P ops Q rest (a.put o.dst v) w'):wpList P ops Q (o::rest) a w:=wpList_plain hgd fun _ hK=>uT ho hx hr (hK _ _ h)
theorem vC {x z:Operand}{y u:Value}(hgd:o.guard=none)(ho:o.op = .buildSlice t 2 #[(0,x),(1,z)])(hx:a.eval x=y)(hz:a.eval z=u)(hr:(Instr.buildSlice t 2 #[(0,y),(1,u)]).run P w = .ok v w')(h:wpList P ops Q rest (a.put o.dst v) w'):wpList P ops Q (o::rest) a w :=
 wpList_plain hgd fun _ hK=>by
  unfold Oper.wp execOp
  simp only[ho,Sem.run_bind,Sem.run_pure,List.map_toArray,List.map_cons,List.map_nil,hx,hz,hr]
  exact hK _ _ h
end
@[reducible] def hN1:List Value:=[zI zL 2,zI zL 61,.string (bs [114,111,111,109,115]),zI zL 0,zI zL 0,.bool false,zI zL 0,zI zL 0,zI zL 0,.slice none 0 0]
@[reducible] def hN2:List Value:=[zI zL 1,zI zL 69,.string ⟨#[]⟩,zI zL 1250,zI zL 1,.bool false,zI zL 1,zI zL 0,zI zL 0,.slice none 0 0]
@[reducible] def hNb:NV:=⟨2,4,bs [98],0,0,false,0,0,0,none,0,0⟩
@[reducible] def hNo:NV:=⟨1,8,⟨#[]⟩,1,1,false,0,0,0,none,0,0⟩
@[reducible] def hNs (b:Nat):NV:=⟨3,4,⟨#[]⟩,0,0,false,0,0,0,some ⟨b,0,none⟩,2,2⟩
@[reducible] def hNa:NV:=⟨2,0,bs [97],0,0,false,0,0,0,none,0,0⟩
@[reducible] def hNl (b:Nat):NV:=⟨11,0,⟨#[]⟩,0,0,false,0,0,0,some ⟨b,0,none⟩,2,2⟩
theorem iw {P:Program}{ops:Array Oper}{rest:List Oper}{o:Oper}{a:Act}{w:World}{Q:Exit->Act->World->Prop}{t:TypeId}{l:List (Nat×Operand)}(v:Value)(hgd:o.guard=none)(ho:o.op = .build t l.toArray)(hr:(Instr.build t (l.map fun (i,x)=>(i,a.eval x)).toArray).run P w = .ok v w)(h:wpList P ops Q rest (a.put o.dst v) w):wpList P ops Q (o::rest) a w:=qw hgd ho hr h
theorem nM (w:World)(b:Nat)(l:List Value)(hl:l.length=10)(h:bI w b l):(Instr.loadAt 36 (.pointer (some ⟨b,0,none⟩))).run Tryz.prog w = .ok (.agg l.toArray) w :=
 aS _ 10 zab zab w b l hl h
structure HF (W:World) (cb g1 g2 c1 c2 db rb:Nat) (x y x' y':NV):Prop where
 c:At2 W cb (.slice (some ⟨g1,0,none⟩) 1 c1) (.slice (some ⟨g2,0,none⟩) 1 c2)
 d1:bI W g1 (dV (bY hs1) hD)
 r1:bI W g2 (rV (bY hs1) hR x y)
 nx:NodeA W (fun _=>True) (bY hs1) hR.whn x
 ny:NodeA W (fun _=>True) (bY hs1) hR.give y
 db:bI W db [.string (bs [114,111,111,109,115]),.bool false,zI zL 0,zI zL 0,zI zL 0,zI zL 1,zI zL 5,zI zL 0]
 rb:bI W rb (rV idO hR' x' y')
 mx:NodeA W (fun _=>True) idO hR'.whn x'
 my:NodeA W (fun _=>True) idO hR'.give y'
theorem HF.bel {W V:World}{cb g1 g2 c1 c2 db rb:Nat}{x y x' y':NV}(h:HF W cb g1 g2 c1 c2 db rb x y x' y')(hB:RowKit.Below W.heap.size W V):HF V cb g1 g2 c1 c2 db rb x y x' y' :=
 ⟨h.c.bel hB,h.d1.bel (by simp[dV]) hB,h.r1.bel zda hB,NodeA.bel hB _ _ h.nx,NodeA.bel hB _ _ h.ny,h.db.bel (by simp) hB,h.rb.bel zda hB,NodeA.bel hB _ _ h.mx,NodeA.bel hB _ _ h.my⟩
theorem rT (w:World)(A:Nat->Prop)(ofs:Nat->Int)(op:Int)(pl:Nat)(nm:List UInt8)(n d:Int)(u:Nat):NodeA w A ofs (.mk op pl nm n d u []) ⟨op,ofs pl,bs nm,n,d,uF u,uM u,uA u,uD u,none,0,0⟩:=by
 unfold NodeA
 exact Eb
theorem wp_hide {P:Program}{Q:Exit->Act->World->Prop}{a:Act}{w:World}{c0 c1 c2 c3 c4 c5 c6 d:Code}(h:∀C,C=c6->(c0.seq (c1.seq (c2.seq (c3.seq (c4.seq (c5.seq (C.seq d))))))).wp P Q a w):(c0.seq (c1.seq (c2.seq (c3.seq (c4.seq (c5.seq (c6.seq d))))))).wp P Q a w:=h _ rfl
theorem gm {P:Program}{o:Oper}{a:Act}{w:World}{K:Act->World->Prop}{Q:Exit->Act->World->Prop}{f:FuncId}{l:List Operand}{ts:Array TypeId}{vs:Array Value}(ho:o.op = .call { callee:= .value (.func f),args:=l.toArray,argTypes:=ts })(hv:(l.map a.eval).toArray=vs)
  (h:Calls P f vs w fun
   | .returned v,w''=>K (a.put o.dst v) w''
   | .panicked chain,w''=>Q (.panic chain) a w''
   | .outgrown,_=>LetsOut Q) (hn:(callFunc f vs).run P w = .ok (.enter f vs) w:=by kernel_rfl):Oper.wp P o a w K Q:=by
 subst hv
 unfold Oper.wp execOp
 simp only[ho,resolve,invoke,Deferred.ofValue,Act.eval,Sem.run_bind,Sem.run_pure,Result.andThen_ok,List.map_toArray]
 rw[Array.empty_append,Array.append_empty,hn]
 exact h
theorem FH (w:World):Calls Tryz.prog 12 #[.agg (dV (bY hs1) hD).toArray,.agg [.string (bs [114,111,111,109,115]),.bool false,zI zL 0,zI zL 0,zI zL 0,zI zL 1,zI zL 5,zI zL 0].toArray,.bool true] w fun e w'=>e = .returned (.bool true)/\RowKit.Below w.heap.size w w':=by
 refine(jc true hD.name hD.name (uF 1) false (uM 1) (uA 1) (uD 1) 0 0 0 1 5 (bY hs1 21) 1 5 0 w).mono ?_
 rintro e w' ⟨h1,h2⟩
 refine⟨?_,h2⟩
 rw[h1,of1.1]
 rfl
theorem dF (n:Nat)(z:Nat->Int)(b c cp cq:Nat)(pp pq:Option Addr)(w:World)(hp:0<n->pp=some ⟨b,0,none⟩)(hq:0<n->pq=some ⟨c,0,none⟩)(h1:∀j,j<n*2->w.cell? ⟨b,j,none⟩=some (zI zL (z j)))(h2:∀j,j<n*2->w.cell? ⟨c,j,none⟩=some (zI zL (z j)))(hn:n<=1000000) :
  Calls Tryz.prog 10 #[.slice pp n cp,.slice pq n cq] w fun e w'=>e = .returned (.bool true)/\RowKit.Below w.heap.size w w':=by
 have HB:=zH (Below.refl w.heap.size w)
 have H1:=zH h1
 have H2:=zH h2
 have HP:=zH hp
 have HQ:=zH hq
 clear h1 h2 hp hq
 go_enter Tryz.func10,Tryz.ntmps10
 go_wp2_with fail
 go_loopg [5] n (fun g s5 wr=>∃k:Nat,s5 = zI zL k/\k<=n/\n-k<=g/\Hid (RowKit.Below w.heap.size w wr))
 case atStart=>exact⟨0,rfl,zac,zac,HB⟩
 case round =>
  clear HB
  obtain⟨k,rfl,hk,hg,HB⟩:=hrel
  by_cases he:k=n
  ·have e1:decide (k<n)=false:=decide_eq_false zac
   go_wp2_with fail
   go_ret
   exact⟨rfl,HB.out⟩
  ·have e1:decide (k<n)=true:=decide_eq_true zac
   have hpp:=HP.out zac
   have hqq:=HQ.out zac
   subst hpp hqq
   have hkz:(k:Int)<(n:Int):=zac
   have hk1:IntKind.i64.wrap ((k:Int)+1)=((k+1:Nat):Int):=zal
   have hbl:b<w.heap.size:=World.block_lt_of_cell? _ _ (H1.out (k*2) zac)
   have hcl:c<w.heap.size:=World.block_lt_of_cell? _ _ (H2.out (k*2) zac)
   have c0:=(HB.out.cell (p:=⟨b,k*2,none⟩) hbl).trans (H1.out (k*2) zac)
   have c1:=(HB.out.cell (p:=⟨b,k*2+1,none⟩) hbl).trans (H1.out (k*2+1) zac)
   have d0:=(HB.out.cell (p:=⟨c,k*2,none⟩) hcl).trans (H2.out (k*2) zac)
   have d1:=(HB.out.cell (p:=⟨c,k*2+1,none⟩) hcl).trans (H2.out (k*2+1) zac)
   clear hbl hcl
   go_wp2_with fail
   go_quiet (fail)
   go_wp2_with fail
   go_roundg (n-(k+1))
   case measure=>omega
   case rel=>exact⟨k+1,rfl,zac,Nat.le_refl _,below_drewN HB.out _⟩
end Go.Proofs.YtnjfolljbfkojaaGreatDoor
