import Derived.Test.YtnjfolljbfkojaaGreatDoorMBG
set_option maxRecDepth 100000
set_option maxHeartbeats 20000000
namespace Go.Proofs.YtnjfolljbfkojaaGreatDoor
open Go.Value renaming int→zI
open Go.IntKind renaming i64→zL
open Go.Lib renaming hid→zH
open Go.RowKit Lx Pa
inductive XRes where
 | ok (n:Tree) (ofs:Nat->Int)
 | er (E a:Int)
def ky (l:List UInt8):XRes:=match lex Vh l with
 | .er E a=> .er E a
 | .ok ts=>match bJ M0 ts with
  | .ok n _=> .ok n (ag ts l.length)
  | .er E q _=> .er E (ag ts l.length q)
theorem tX (s:ByteArray)(hs:s.size<=281474976710656)(ts:List Tok)(h:lex Vh s.data.toList = .ok ts)(n:Tree)(r:List Tok)(hn:bJ M0 ts = .ok n r)(sb nb:Nat)(w:World)(h1:w.cell? ⟨sb,0,none⟩=some (.string s))(h2:B10 w nb (zI zL 0) (zI zL 0) (.string ⟨#[]⟩) (zI zL 0) (zI zL 0) (.bool false) (zI zL 0) (zI zL 0) (zI zL 0) (.slice none 0 0)) :
  Calls Tryz.prog 24 #[.pointer (some ⟨sb,0,none⟩),.pointer (some ⟨nb,0,none⟩)] w fun e w'=>e = .returned (.tuple #[])/\∃x:NV,B10 w' nb (zI zL x.o) (zI zL x.a) (.string x.s) (zI zL x.n) (zI zL x.d) (.bool x.f) (zI zL x.m) (zI zL x.r) (zI zL x.y) (.slice x.q x.k x.c)/\NodeA w' (fun j=>w.heap.size<=j) (ag ts s.size) n x/\Kept nb w w':=by
 have KN:=zH (fun w=>kw s hs ts h w)
 have hnb:=World.block_lt_of_cell? _ _ h2.c0
 have HB0:=zH (Below.refl w.heap.size w)
 have HN:=zH h2
 simp only at hnb
 clear h h2
 go_enter Tryz.func24,Tryz.ntmps24
 go_wp2_with fail
 refine(KN.out _).mono ?_
 rintro _ v ⟨b,p,cap,qb,mb,rfl,hrd,hbw,hb⟩
 have KS:=zH (lG 0 v hrd)
 rw[List.drop_zero,hn] at KS
 have HB:=zH hb
 have HN1:=zH (HN.out.bel hb)
 clear hb KN HN
 go_wp2_with fail
 refine KS.out.mono ?_
 rintro _ v2 ⟨_,k',rfl,⟨⟨xo,xa,xs,xn,xd,xf,xm,xr,xy,xq,xk,xc⟩,rfl,hx⟩,hkp,hrd2,-⟩
 have HK:=zH hkp
 have HX:=zH hx
 have HN2:=zH (HN1.out.call hkp zac)
 have hsv:=HB.out.size
 clear hkp hx hrd hrd2 KS HN1
 unfold nv
 obtain⟨r0,r1,r2,r3,r4,r5,r6,r7,r8,r9,q0,q1,q2,q3,q4,q5,q6,q7,q8,q9⟩:=HN2.out
 go_wp2_with fail
 go_end0
 refine⟨rfl,⟨xo,xa,xs,xn,xd,xf,xm,xr,xy,xq,xk,xc⟩,HN2.out.put _ _ _ _ _ _ _ _ _ _,?_,?_⟩
 ·exact(NodeA.set (NodeA.set (NodeA.set (NodeA.set (NodeA.set (NodeA.set (NodeA.set (NodeA.set (NodeA.set (NodeA.set (NodeA.keep (A':=fun j=>w.heap.size<=j) (Nat.le_refl _) (fun _ _ _=>rfl) (fun j (hj:v.heap.size<=j) _=> zch) _ _ HX.out) zcp 0 _) zcp 1 _) zcp 2 _) zcp 3 _) zcp 4 _) zcp 5 _) zcp 6 _) zcp 7 _) zcp 8 _) zcp 9 _)
 ·have h3:Kept nb w v2:=Kept.of (HB.out.trans (HK.out.below (B:=w.heap.size) zac zac))
  exact((((((((((h3.setCell 0 none _).setCell 1 none _).setCell 2 none _).setCell 3 none _).setCell 4 none _).setCell 5 none _).setCell 6 none _).setCell 7 none _).setCell 8 none _).setCell 9 none _)
theorem tC (s:ByteArray)(hs:s.size<=281474976710656)(E:Int)(a:Nat)(h:lex Vh s.data.toList = .er E a)(sb nb:Nat)(w:World)(h1:w.cell? ⟨sb,0,none⟩=some (.string s)) :
  Calls Tryz.prog 24 #[.pointer (some ⟨sb,0,none⟩),.pointer (some ⟨nb,0,none⟩)] w fun e w'=>e = .panicked (gK E a)/\RowKit.Below w.heap.size w w':=by
 have KN:=zH (fun w=>nz s hs E a h w)
 clear h
 go_enter Tryz.func24,Tryz.ntmps24
 exact Ea
theorem sV (s:ByteArray)(hs:s.size<=281474976710656)(ts:List Tok)(h:lex Vh s.data.toList = .ok ts)(E:Int)(q m:Nat)(hn:bJ M0 ts = .er E q m)(sb nb:Nat)(w:World)(h1:w.cell? ⟨sb,0,none⟩=some (.string s)) :
  Calls Tryz.prog 24 #[.pointer (some ⟨sb,0,none⟩),.pointer (some ⟨nb,0,none⟩)] w fun e w'=>e = .panicked (gK E (ag ts s.size q))/\RowKit.Below w.heap.size w w':=by
 have KN:=zH (fun w=>kw s hs ts h w)
 clear h
 go_enter Tryz.func24,Tryz.ntmps24
 go_wp2_with fail
 refine(KN.out _).mono ?_
 rintro _ v ⟨b,p,cap,qb,mb,rfl,hrd,hbw,hb⟩
 have KS:=zH (lG 0 v hrd)
 rw[List.drop_zero,hn] at KS
 have HB:=zH hb
 clear hb KN
 go_wp2_with fail
 refine KS.out.mono ?_
 rintro _ v2 ⟨k',rfl,hkp,-,-⟩
 have hsv:=HB.out.size
 have HB2:=zH (HB.out.trans (hkp.below (B:=w.heap.size) zac zac))
 go_wp2_with fail
 exact aa rfl ⟨rfl,HB2.out⟩
theorem fV (args:Array Value)(w:World):(callFunc 24 args).run Tryz.prog w = .ok (.enter 24 args) w:=zab
theorem qW (s:ByteArray)(hs:s.size<=281474976710656)(ts:List Tok)(h:lex Vh s.data.toList = .ok ts)(n:Tree)(r:List Tok)(hn:bJ M0 ts = .ok n r)(w:World):Calls Tryz.prog 7 #[.string s] w fun e w'=>∃x,e = .returned (.tuple #[nv x,zI zL 0,zI zL 0])/\ah w' w.heap.size (ag ts s.size) n x/\RowKit.Below w.heap.size w w':=by
 have hmf:∀(fn:Fn) (first cap:Array Value) (w:World),(Instr.makeFunc fn first cap).run Tryz.prog w = .ok (.func fn first cap) w:=fun _ _ _ _=>rfl
 obtain⟨W,hW⟩:∃W,W=(((w.alloc (.cells #[.string s] 9)).alloc (.cells #[zI zL 0,zI zL 0,.string ⟨#[]⟩,zI zL 0,zI zL 0,.bool false,zI zL 0,zI zL 0,zI zL 0,.slice none 0 0] 36)).alloc (.cells #[zI zL 0,zI zL 0,.string ⟨#[]⟩,zI zL 0,zI zL 0,.bool false,zI zL 0,zI zL 0,zI zL 0,.slice none 0 0] 36)):=⟨_,rfl⟩
 have h1:∀(v:World) (o:Obj),RowKit.Below v.heap.size v (v.alloc o):=fun v o=>(Below.refl _ _).alloc (Nat.le_refl _) o
 have s1:∀(v:World) (o:Obj),(v.alloc o).heap.size=v.heap.size+1:=fun v o=>by simp
 have HBW:Hid (RowKit.Below w.heap.size w W):=by
  show RowKit.Below _ _ _
  rw[hW]
  exact Cv
 have C0:Hid (W.cell? ⟨w.heap.size,0,none⟩=some (.string s)):=by
  show _=_
  exact BZ
 have R0:Hid (B10 W (w.heap.size+1) (zI zL 0) (zI zL 0) (.string ⟨#[]⟩) (zI zL 0) (zI zL 0) (.bool false) (zI zL 0) (zI zL 0) (zI zL 0) (.slice none 0 0)):=by
  have:=(B10.new (w.alloc (.cells #[.string s] 9)) (zI zL 0) (zI zL 0) (.string ⟨#[]⟩) (zI zL 0) (zI zL 0) (.bool false) (zI zL 0) (zI zL 0) (zI zL 0) (.slice none 0 0) 36).bel (h1 _ (.cells #[zI zL 0,zI zL 0,.string ⟨#[]⟩,zI zL 0,zI zL 0,.bool false,zI zL 0,zI zL 0,zI zL 0,.slice none 0 0] 36))
  rw[s1] at this
  show B10 _ _ _ _ _ _ _ _ _ _ _ _
  rw[hW];exact this
 have N0:Hid (B10 W (w.heap.size+2) (zI zL 0) (zI zL 0) (.string ⟨#[]⟩) (zI zL 0) (zI zL 0) (.bool false) (zI zL 0) (zI zL 0) (zI zL 0) (.slice none 0 0)):=by
  have:=B10.new ((w.alloc (.cells #[.string s] 9)).alloc (.cells #[zI zL 0,zI zL 0,.string ⟨#[]⟩,zI zL 0,zI zL 0,.bool false,zI zL 0,zI zL 0,zI zL 0,.slice none 0 0] 36)) (zI zL 0) (zI zL 0) (.string ⟨#[]⟩) (zI zL 0) (zI zL 0) (.bool false) (zI zL 0) (zI zL 0) (zI zL 0) (.slice none 0 0) 36
  rw[s1,s1] at this
  show B10 _ _ _ _ _ _ _ _ _ _ _ _
  rw[hW];exact this
 have hsW:W.heap.size=w.heap.size+3:=by rw[hW,s1,s1,s1]
 have bd:=h1 W (.cells #[zI zL 0,zI zL 0] 53)
 have D0:=zH (At2.new W (zI zL 0) (zI zL 0) 53)
 have C1:=(bd.cell (p:=⟨w.heap.size,0,none⟩) (by show w.heap.size<_;omega)).trans C0.out
 have N1:=N0.out.bel bd
 have sD:=s1 W (.cells #[zI zL 0,zI zL 0] 53)
 have KE:=zH (sJ 24 #[.pointer (some ⟨w.heap.size,0,none⟩),.pointer (some ⟨w.heap.size+2,0,none⟩)] fV
  (fun w'=>∃x:NV,B10 w' (w.heap.size+2) (zI zL x.o) (zI zL x.a) (.string x.s) (zI zL x.n) (zI zL x.d) (.bool x.f) (zI zL x.m) (zI zL x.r) (zI zL x.y) (.slice x.q x.k x.c)/\NodeA w' (fun j=>W.heap.size+1<=j) (ag ts s.size) n x/\Kept (w.heap.size+2) W w') W
  ((tX s hs ts h n r hn _ _ _ C1 N1).mono (by
   rintro e w' ⟨he,x,hb,hn,hk⟩
   exact⟨he,⟨(World.cell?_of_block (w:=W.alloc (.cells #[zI zL 0,zI zL 0] 53)) (hk.block W.heap.size zac zac)).trans D0.out.c0,(World.cell?_of_block (w:=W.alloc (.cells #[zI zL 0,zI zL 0] 53)) (hk.block W.heap.size zac zac)).trans D0.out.c1,(World.frozen?_of_block (w:=W.alloc (.cells #[zI zL 0,zI zL 0] 53)) (hk.block W.heap.size zac zac)).trans D0.out.f0,(World.frozen?_of_block (w:=W.alloc (.cells #[zI zL 0,zI zL 0] 53)) (hk.block W.heap.size zac zac)).trans D0.out.f1⟩,x,hb,NodeA.keep (Nat.le_refl _) (fun _ _ _=>rfl) (fun j (hj:(W.alloc _).heap.size<=j) _=> zch) _ _ hn,(Kept.of bd).trans hk⟩)))
 clear h1 s1 bd C1 N1
 go_enter Tryz.func7,Tryz.ntmps7
 go_wp2_with fail
 rw[<-hW]
 clear hW
 refine KE.out.mono ?_
 rintro _ v ⟨rfl,v2,⟨⟨xo,xa,xs,xn,xd,xf,xm,xr,xy,xq,xk,xc⟩,hb,hn,hk⟩,hk2⟩
 have hs2:=hk.size
 have hs3:=hk2.size
 have HN:Hid (NodeA v (fun j=>W.heap.size+1<=j) (ag ts s.size) n ⟨xo,xa,xs,xn,xd,xf,xm,xr,xy,xq,xk,xc⟩):=NodeA.keep hk2.size (fun j (hj:W.heap.size+1<=j) hj2=>hk2.block j hj2 zac) (fun j hj _=>hj) _ _ hn
 have NB:=zH (hb.of (hk2.block (w.heap.size+2) (World.block_lt_of_cell? _ _ hb.c0) zac))
 have RB:=zH ((R0.out.of (hk.block (w.heap.size+1) zac zac)).of (hk2.block (w.heap.size+1) zac zac))
 have HBv:Hid (RowKit.Below w.heap.size w v):=(HBW.out.trans (hk.below (B:=w.heap.size) zac zac)).trans (hk2.below (B:=w.heap.size) zac zac)
 have DB:=zH (At2.new v (zI zL 0) (zI zL 0) 53)
 have bl:=(Below.refl v.heap.size v).alloc (Nat.le_refl _) (.cells #[zI zL 0,zI zL 0] 53)
 replace HN:=zH (NodeA.bel bl _ _ HN.out)
 replace NB:=zH (NB.out.bel bl)
 replace RB:=zH (RB.out.bel bl)
 replace HBv:=zH (HBv.out.trans (bl.mono zac))
 clear hb hn hk hk2 bl R0 N0 C0 D0 KE HBW
 go_wp2_with fail
 generalize v.alloc (.cells #[zI zL 0,zI zL 0] 53)=V at *
 generalize v.heap.size=db at *
 have hS:V.drew.cell? ⟨w.heap.size+1+1,0,none⟩=some (zI zL xo)/\V.drew.cell? ⟨w.heap.size+1+1,1,none⟩=some (zI zL xa)/\V.drew.cell? ⟨w.heap.size+1+1,2,none⟩=some (.string xs)/\V.drew.cell? ⟨w.heap.size+1+1,3,none⟩=some (zI zL xn)/\V.drew.cell? ⟨w.heap.size+1+1,4,none⟩=some (zI zL xd)/\V.drew.cell? ⟨w.heap.size+1+1,5,none⟩=some (.bool xf)/\V.drew.cell? ⟨w.heap.size+1+1,6,none⟩=some (zI zL xm)/\V.drew.cell? ⟨w.heap.size+1+1,7,none⟩=some (zI zL xr)/\V.drew.cell? ⟨w.heap.size+1+1,8,none⟩=some (zI zL xy)/\V.drew.cell? ⟨w.heap.size+1+1,9,none⟩=some (.slice xq xk xc)/\V.drew.cell? ⟨db,0,none⟩=some (zI zL 0)/\V.drew.cell? ⟨db,1,none⟩=some (zI zL 0):=⟨NB.out.c0,NB.out.c1,NB.out.c2,NB.out.c3,NB.out.c4,NB.out.c5,NB.out.c6,NB.out.c7,NB.out.c8,NB.out.c9,DB.out.c0,DB.out.c1⟩
 refine wp_region_held (S:=fun w':World=>w'.cell? ⟨w.heap.size+1+1,0,none⟩=some (zI zL xo)/\w'.cell? ⟨w.heap.size+1+1,1,none⟩=some (zI zL xa)/\w'.cell? ⟨w.heap.size+1+1,2,none⟩=some (.string xs)/\w'.cell? ⟨w.heap.size+1+1,3,none⟩=some (zI zL xn)/\w'.cell? ⟨w.heap.size+1+1,4,none⟩=some (zI zL xd)/\w'.cell? ⟨w.heap.size+1+1,5,none⟩=some (.bool xf)/\w'.cell? ⟨w.heap.size+1+1,6,none⟩=some (zI zL xm)/\w'.cell? ⟨w.heap.size+1+1,7,none⟩=some (zI zL xr)/\w'.cell? ⟨w.heap.size+1+1,8,none⟩=some (zI zL xy)/\w'.cell? ⟨w.heap.size+1+1,9,none⟩=some (.slice xq xk xc)/\w'.cell? ⟨db,0,none⟩=some (zI zL 0)/\w'.cell? ⟨db,1,none⟩=some (zI zL 0)) mixed ?_
 change wpAnyH _ _ _ _ _ _ _ _ V.drew
 refine tk0 (v:=?_) zab zab zab (fun _ _ _ h=>h) (Or.inl ⟨by rfl,?_⟩) hS ?_
 rotate_left
 ·(intro w hSw;(try dsimp only at hSw);go_simp;try with_reducible rfl)
 simp only[Act.put,zA,zB,zC]
 refine tk1 (v:=?_) zab zab zab (fun _ _ _ h=>h) (Or.inl ⟨by rfl,?_⟩) hS ?_
 rotate_left
 ·(intro w hSw;(try dsimp only at hSw);go_simp;try with_reducible rfl)
 simp only[Act.put,zA,zB,zC]
 refine tk2 (v:=?_) zab zab zab (fun _ _ _ h=>h) (Or.inl ⟨by rfl,?_⟩) hS ?_
 rotate_left
 ·(intro w hSw;(try dsimp only at hSw);go_simp;try with_reducible rfl)
 simp only[Act.put,zA,zB,zC]
 refine tk3 (v:=?_) zab zab zab (fun _ _ _ h=>h) (Or.inl ⟨by rfl,?_⟩) hS ?_
 rotate_left
 ·(intro w hSw;(try dsimp only at hSw);go_simp;try with_reducible rfl)
 simp only[Act.put,zA,zB,zC]
 refine tk4 (v:=?_) zab zab zab (fun _ _ _ h=>h) (Or.inl ⟨by rfl,?_⟩) hS ?_
 rotate_left
 ·(intro w hSw;(try dsimp only at hSw);go_simp;try with_reducible rfl)
 simp only[Act.put,zA,zB,zC]
 have hdr:=(Below.refl V.heap.size V).drew
 replace NB:=zH (NB.out.bel hdr)
 replace DB:=zH (DB.out.bel hdr)
 replace RB:=zH (RB.out.bel hdr)
 replace HBv:=zH (HBv.out.drew)
 replace HN:=zH (NodeA.bel hdr _ _ HN.out)
 generalize V.drew=V at *
 obtain⟨r0,r1,r2,r3,r4,r5,r6,r7,r8,r9,q0,q1,q2,q3,q4,q5,q6,q7,q8,q9⟩:=RB.out
 have ND:db≠w.heap.size+1:=zac
 have NN:w.heap.size+2≠w.heap.size+1:=zac
 refine wpAnyH_ready (rs:=[5]) zab (by simp) (st5 (fun K hK=>?_) AllReadyH.nil)
 go_simp
 have NT:=zH ((((((((((NB.out.other NN 0 none (zI zL xo)).other NN 1 none (zI zL xa)).other NN 2 none (.string xs)).other NN 3 none (zI zL xn)).other NN 4 none (zI zL xd)).other NN 5 none (.bool xf)).other NN 6 none (zI zL xm)).other NN 7 none (zI zL xr)).other NN 8 none (zI zL xy)).other NN 9 none (.slice xq xk xc))
 have DT:=zH ((((((((((DB.out.other ND 0 (zI zL xo)).other ND 1 (zI zL xa)).other ND 2 (.string xs)).other ND 3 (zI zL xn)).other ND 4 (zI zL xd)).other ND 5 (.bool xf)).other ND 6 (zI zL xm)).other ND 7 (zI zL xr)).other ND 8 (zI zL xy)).other ND 9 (.slice xq xk xc))
 refine hK.out _ _ ?_ (fun hHeld=>?_)
 ·exact Fv
 clear hK K
 try simp only[Act.put,zA,zB,zC]
 refine wpAnyH_ready (rs:=[6]) zab (by simp) (st6 (fun K hK=>?_) AllReadyH.nil)
 go_simp
 refine hK.out _ _ ?_ (fun hHeld=>?_)
 ·exact Fv
 clear hK K
 try simp only[Act.put,zA,zB,zC]
 refine wpAnyH_ready (rs:=[7]) zab (by simp) (st7 (fun K hK=>?_) AllReadyH.nil)
 go_simp
 refine hK.out _ _ ?_ (fun hHeld=>?_)
 ·exact Fv
 clear hK K
 try simp only[Act.put,zA,zB,zC]
 refine wpAnyH_done zab ?_ _
 go_wp2_with fail
 refine(?_:∀G:World,B10 G (w.heap.size+1) (zI zL xo) (zI zL xa) (.string xs) (zI zL xn) (zI zL xd) (.bool xf) (zI zL xm) (zI zL xr) (zI zL xy) (.slice xq xk xc)->RowKit.Below w.heap.size w G->NodeA G (fun j=>W.heap.size+1<=j) (ag ts s.size) n ⟨xo,xa,xs,xn,xd,xf,xm,xr,xy,xq,xk,xc⟩->bodyPost _ _ _ _ _ G) _ (RB.out.put _ _ _ _ _ _ _ _ _ _) ?_ ?_
 ·intro G hG hB hK
  obtain⟨y0,y1,y2,y3,y4,y5,y6,y7,y8,y9,-,-,-,-,-,-,-,-,-,-⟩:=hG
  exact bodyPost_ret (v:= .tuple #[.agg #[zI zL xo,zI zL xa,.string xs,zI zL xn,zI zL xd,.bool xf,zI zL xm,zI zL xr,zI zL xy,.slice xq xk xc],zI zL 0,zI zL 0]) (by simp[results,Tryz.results7,go_sem,y0,y1,y2,y3,y4,y5,y6,y7,y8,y9]) rfl ⟨⟨xo,xa,xs,xn,xd,xf,xm,xr,xy,xq,xk,xc⟩,rfl,NodeA.keep (Nat.le_refl _) (fun _ _ _=>rfl) (fun j (hj:W.heap.size+1<=j) _=> zch) _ _ hK,hB⟩
 ·exact((((((((((HBv.out.setCell (p:=⟨w.heap.size+1,0,none⟩) zau _).setCell (p:=⟨w.heap.size+1,1,none⟩) zau _).setCell (p:=⟨w.heap.size+1,2,none⟩) zau _).setCell (p:=⟨w.heap.size+1,3,none⟩) zau _).setCell (p:=⟨w.heap.size+1,4,none⟩) zau _).setCell (p:=⟨w.heap.size+1,5,none⟩) zau _).setCell (p:=⟨w.heap.size+1,6,none⟩) zau _).setCell (p:=⟨w.heap.size+1,7,none⟩) zau _).setCell (p:=⟨w.heap.size+1,8,none⟩) zau _).setCell (p:=⟨w.heap.size+1,9,none⟩) zau _)
 ·exact(NodeA.set (NodeA.set (NodeA.set (NodeA.set (NodeA.set (NodeA.set (NodeA.set (NodeA.set (NodeA.set (NodeA.set HN.out zbm 0 _) zbm 1 _) zbm 2 _) zbm 3 _) zbm 4 _) zbm 5 _) zbm 6 _) zbm 7 _) zbm 8 _) zbm 9 _)
theorem nK (s:ByteArray)(hs:s.size<=281474976710656)(E:Int)(AA:Int)(a:Nat)(hA:AA=a)(h:lex Vh s.data.toList = .er E a)(w:World):Calls Tryz.prog 7 #[.string s] w fun e w'=>e = .returned (.tuple #[.agg #[zI zL 0,zI zL 0,.string ⟨#[]⟩,zI zL 0,zI zL 0,.bool false,zI zL 0,zI zL 0,zI zL 0,.slice none 0 0],zI zL E,zI zL AA])/\RowKit.Below w.heap.size w w':=by
 have hmf:∀(fn:Fn) (first cap:Array Value) (w:World),(Instr.makeFunc fn first cap).run Tryz.prog w = .ok (.func fn first cap) w:=fun _ _ _ _=>rfl
 obtain⟨W,hW⟩:∃W,W=(((w.alloc (.cells #[.string s] 9)).alloc (.cells #[zI zL 0,zI zL 0,.string ⟨#[]⟩,zI zL 0,zI zL 0,.bool false,zI zL 0,zI zL 0,zI zL 0,.slice none 0 0] 36)).alloc (.cells #[zI zL 0,zI zL 0,.string ⟨#[]⟩,zI zL 0,zI zL 0,.bool false,zI zL 0,zI zL 0,zI zL 0,.slice none 0 0] 36)):=⟨_,rfl⟩
 have h1:∀(v:World) (o:Obj),RowKit.Below v.heap.size v (v.alloc o):=fun v o=>(Below.refl _ _).alloc (Nat.le_refl _) o
 have s1:∀(v:World) (o:Obj),(v.alloc o).heap.size=v.heap.size+1:=fun v o=>by simp
 have HBW:Hid (RowKit.Below w.heap.size w W):=by
  show RowKit.Below _ _ _
  rw[hW]
  exact Cv
 have C0:Hid (W.cell? ⟨w.heap.size,0,none⟩=some (.string s)):=by
  show _=_
  exact BZ
 have R0:Hid (B10 W (w.heap.size+1) (zI zL 0) (zI zL 0) (.string ⟨#[]⟩) (zI zL 0) (zI zL 0) (.bool false) (zI zL 0) (zI zL 0) (zI zL 0) (.slice none 0 0)):=by
  have:=(B10.new (w.alloc (.cells #[.string s] 9)) (zI zL 0) (zI zL 0) (.string ⟨#[]⟩) (zI zL 0) (zI zL 0) (.bool false) (zI zL 0) (zI zL 0) (zI zL 0) (.slice none 0 0) 36).bel (h1 _ (.cells #[zI zL 0,zI zL 0,.string ⟨#[]⟩,zI zL 0,zI zL 0,.bool false,zI zL 0,zI zL 0,zI zL 0,.slice none 0 0] 36))
  rw[s1] at this
  show B10 _ _ _ _ _ _ _ _ _ _ _ _
  rw[hW];exact this
 have N0:Hid (B10 W (w.heap.size+2) (zI zL 0) (zI zL 0) (.string ⟨#[]⟩) (zI zL 0) (zI zL 0) (.bool false) (zI zL 0) (zI zL 0) (zI zL 0) (.slice none 0 0)):=by
  have:=B10.new ((w.alloc (.cells #[.string s] 9)).alloc (.cells #[zI zL 0,zI zL 0,.string ⟨#[]⟩,zI zL 0,zI zL 0,.bool false,zI zL 0,zI zL 0,zI zL 0,.slice none 0 0] 36)) (zI zL 0) (zI zL 0) (.string ⟨#[]⟩) (zI zL 0) (zI zL 0) (.bool false) (zI zL 0) (zI zL 0) (zI zL 0) (.slice none 0 0) 36
  rw[s1,s1] at this
  show B10 _ _ _ _ _ _ _ _ _ _ _ _
  rw[hW];exact this
 have hsW:W.heap.size=w.heap.size+3:=by rw[hW,s1,s1,s1]
 have bd:=h1 W (.cells #[zI zL 0,zI zL 0] 53)
 have D0:=zH (At2.new W (zI zL 0) (zI zL 0) 53)
 have C1:=(bd.cell (p:=⟨w.heap.size,0,none⟩) (by show w.heap.size<_;omega)).trans C0.out
 have N1:=N0.out.bel bd
 have sD:=s1 W (.cells #[zI zL 0,zI zL 0] 53)
 have KE:=zH (gF 24 #[.pointer (some ⟨w.heap.size,0,none⟩),.pointer (some ⟨w.heap.size+2,0,none⟩)] fV E _ (fun w'=>RowKit.Below W.heap.size W w') W
  ((tC s hs E a h _ _ _ C1).mono (by
   rintro e w' ⟨he,hb⟩
   exact⟨he,D0.out.bel hb,bd.trans (hb.mono zac)⟩)))
 exact zz4
theorem nP (s:ByteArray)(hs:s.size<=281474976710656)(ts:List Tok)(h:lex Vh s.data.toList = .ok ts)(E:Int)(q m:Nat)(AA:Int)(hA:AA=ag ts s.size q)(hn:bJ M0 ts = .er E q m)(w:World):Calls Tryz.prog 7 #[.string s] w fun e w'=>e = .returned (.tuple #[.agg #[zI zL 0,zI zL 0,.string ⟨#[]⟩,zI zL 0,zI zL 0,.bool false,zI zL 0,zI zL 0,zI zL 0,.slice none 0 0],zI zL E,zI zL AA])/\RowKit.Below w.heap.size w w':=by
 have hmf:∀(fn:Fn) (first cap:Array Value) (w:World),(Instr.makeFunc fn first cap).run Tryz.prog w = .ok (.func fn first cap) w:=fun _ _ _ _=>rfl
 obtain⟨W,hW⟩:∃W,W=(((w.alloc (.cells #[.string s] 9)).alloc (.cells #[zI zL 0,zI zL 0,.string ⟨#[]⟩,zI zL 0,zI zL 0,.bool false,zI zL 0,zI zL 0,zI zL 0,.slice none 0 0] 36)).alloc (.cells #[zI zL 0,zI zL 0,.string ⟨#[]⟩,zI zL 0,zI zL 0,.bool false,zI zL 0,zI zL 0,zI zL 0,.slice none 0 0] 36)):=⟨_,rfl⟩
 have h1:∀(v:World) (o:Obj),RowKit.Below v.heap.size v (v.alloc o):=fun v o=>(Below.refl _ _).alloc (Nat.le_refl _) o
 have s1:∀(v:World) (o:Obj),(v.alloc o).heap.size=v.heap.size+1:=fun v o=>by simp
 have HBW:Hid (RowKit.Below w.heap.size w W):=by
  show RowKit.Below _ _ _
  rw[hW]
  exact Cv
 have C0:Hid (W.cell? ⟨w.heap.size,0,none⟩=some (.string s)):=by
  show _=_
  exact BZ
 have R0:Hid (B10 W (w.heap.size+1) (zI zL 0) (zI zL 0) (.string ⟨#[]⟩) (zI zL 0) (zI zL 0) (.bool false) (zI zL 0) (zI zL 0) (zI zL 0) (.slice none 0 0)):=by
  have:=(B10.new (w.alloc (.cells #[.string s] 9)) (zI zL 0) (zI zL 0) (.string ⟨#[]⟩) (zI zL 0) (zI zL 0) (.bool false) (zI zL 0) (zI zL 0) (zI zL 0) (.slice none 0 0) 36).bel (h1 _ (.cells #[zI zL 0,zI zL 0,.string ⟨#[]⟩,zI zL 0,zI zL 0,.bool false,zI zL 0,zI zL 0,zI zL 0,.slice none 0 0] 36))
  rw[s1] at this
  show B10 _ _ _ _ _ _ _ _ _ _ _ _
  rw[hW];exact this
 have N0:Hid (B10 W (w.heap.size+2) (zI zL 0) (zI zL 0) (.string ⟨#[]⟩) (zI zL 0) (zI zL 0) (.bool false) (zI zL 0) (zI zL 0) (zI zL 0) (.slice none 0 0)):=by
  have:=B10.new ((w.alloc (.cells #[.string s] 9)).alloc (.cells #[zI zL 0,zI zL 0,.string ⟨#[]⟩,zI zL 0,zI zL 0,.bool false,zI zL 0,zI zL 0,zI zL 0,.slice none 0 0] 36)) (zI zL 0) (zI zL 0) (.string ⟨#[]⟩) (zI zL 0) (zI zL 0) (.bool false) (zI zL 0) (zI zL 0) (zI zL 0) (.slice none 0 0) 36
  rw[s1,s1] at this
  show B10 _ _ _ _ _ _ _ _ _ _ _ _
  rw[hW];exact this
 have hsW:W.heap.size=w.heap.size+3:=by rw[hW,s1,s1,s1]
 have bd:=h1 W (.cells #[zI zL 0,zI zL 0] 53)
 have D0:=zH (At2.new W (zI zL 0) (zI zL 0) 53)
 have C1:=(bd.cell (p:=⟨w.heap.size,0,none⟩) (by show w.heap.size<_;omega)).trans C0.out
 have N1:=N0.out.bel bd
 have sD:=s1 W (.cells #[zI zL 0,zI zL 0] 53)
 have KE:=zH (gF 24 #[.pointer (some ⟨w.heap.size,0,none⟩),.pointer (some ⟨w.heap.size+2,0,none⟩)] fV E _ (fun w'=>RowKit.Below W.heap.size W w') W
  ((sV s hs ts h E q m hn _ _ _ C1).mono (by
   rintro e w' ⟨he,hb⟩
   exact⟨he,D0.out.bel hb,bd.trans (hb.mono zac)⟩)))
 exact zz4
def jZ (t:List Tok):Out Pa.Decl:=(lT t).bind fun d r=>(need sSc r).bind fun _ r=> .ok d r
theorem jK {ts:List Tok}{p:Option Addr}{b off cap n En:Nat}(hT:eQ ts)(σ:Sg)(hk:σ.k<=n)(w:World)(hS:SlT w p b off n ts):Calls Tryz.prog 21 #[.agg #[.slice p n cap,zI zL (σ.k:Nat),zI zL En,zI zL σ.E,zI zL σ.O]] w fun e w'=>EX (dV (ag ts En)) w p n cap ((σ.run ts En jZ).k:Nat) En (σ.run ts En jZ).E (σ.run ts En jZ).O 8 (σ.val ts jZ) e w':=by
 have hl:=hS.ln
 have hmx:=hS.max
 obtain⟨σ1,σ2,σ3,σ4,σ5,σ6,σ7,h1,h2,h3,h4,h5,h6,h7,⟨-,b1,-,b2,-,b3,-,b4,-,b5,-,b6,-,b7⟩,h8,hd⟩:=rA (ts:=ts) (En:=En) σ zac
 change σ.run ts En jZ=_ at h8
 change ∀d,σ.val ts jZ=some d->_ at hd
 have KO:=zH (fun w hS=>aj ts p b off cap n σ.k En σ.E σ.O w hS hk)
 have q1:Hid (∀w1,SlT w1 p b off n ts->_):=fun w1 hS1=>bL (En:=En) (cap:=cap) dU σ w1 hS1 zac
 have q2:Hid (∀w1,SlT w1 p b off n ts->_):=fun w1 hS1=>lK (En:=En) (cap:=cap) hT σ1 zac w1 hS1
 have q3:Hid (∀w1,SlT w1 p b off n ts->_):=fun w1 hS1=>bL (En:=En) (cap:=cap) sCo σ2 w1 hS1 zac
 have HU:=zH (Ce (En:=En) (ts:=ts) σ3 zac)
 have q5:Hid (∀w1,SlT w1 p b off n ts->_):=fun w1 hS1=>ed (En:=En) (cap:=cap) σ4 zac w1 hS1
 have q6:Hid (∀w1,SlT w1 p b off n ts->_):=fun w1 hS1=>bL (En:=En) (cap:=cap) kTo σ5 w1 hS1 zac
 have q7:Hid (∀w1,SlT w1 p b off n ts->_):=fun w1 hS1=>ed (En:=En) (cap:=cap) σ6 zac w1 hS1
 have q8:Hid (∀w1,SlT w1 p b off n ts->_):=fun w1 hS1=>bL (En:=En) (cap:=cap) sSc σ7 w1 hS1 zac
 have KU:=zH (fun w=>dY w)
 obtain⟨wh5,hwh⟩:∃x:Int,x=if σ3.E=0 then whV (which units (ts.drop σ3.k)) else -1:=⟨_,rfl⟩
 have KW:Hid (∀w p2 b2 cap2,SlT w p b off n ts->SlS w p2 b2 0 5 units->Calls Tryz.prog 42 #[.agg #[.slice p n cap,zI zL (σ3.k:Nat),zI zL En,zI zL σ3.E,zI zL σ3.O],.slice p2 5 cap2] w fun e w'=>e = .returned (zI zL wh5)/\RowKit.Below w.heap.size w w'):=fun w p2 b2 cap2 hS hL=>by
  rw[hwh]
  obtain⟨k,E,O⟩:=σ3
  by_cases h0:E=0
  ·subst h0
   rw[if_pos rfl]
   exact bM units ts p p2 b off cap n k b2 0 cap2 5 En O w hS hL
  ·rw[if_neg h0]
   exact iA units ts p p2 b off cap n k b2 0 cap2 5 En E O w hS hL h0
 have KT:=zH (fun u hu w=>iq u w hu)
 have HWV:=zH hwh
 rw[<-h1] at q1
 rw[<-h2] at q2
 rw[<-h3] at q3
 rw[<-h4] at HU
 rw[<-h5] at q5
 rw[<-h6] at q6
 rw[<-h7] at q7
 rw[<-h8] at q8
 obtain⟨σ8,hs8⟩:∃x,x=σ.run ts En jZ:=⟨_,rfl⟩
 obtain⟨t8,ht8⟩:∃x,x=σ.val ts jZ:=⟨_,rfl⟩
 obtain⟨t2,ht2⟩:∃x,x=σ1.val ts nameO:=⟨_,rfl⟩
 obtain⟨t4,ht4⟩:∃x,x=σ3.val ts unitO:=⟨_,rfl⟩
 obtain⟨t5,ht5⟩:∃x,x=σ4.val ts ae:=⟨_,rfl⟩
 obtain⟨t7,ht7⟩:∃x,x=σ6.val ts ae:=⟨_,rfl⟩
 rw[<-ht2] at q2
 rw[<-ht4] at HU
 rw[<-ht5] at q5
 rw[<-ht7] at q7
 rw[<-hs8] at q8
 rw[<-h8,<-hs8,<-ht8,<-ht2,<-ht4,<-ht5,<-ht7] at hd
 rw[<-hs8,<-ht8]
 have HD:=zH hd
 have HS:=zH hS
 clear h1 h2 h3 h4 h5 h6 h7 h8 hd hs8 ht8 ht2 ht4 ht5 ht7 hS hwh
 obtain⟨k,E,O⟩:=σ
 obtain⟨k1,E1,O1⟩:=σ1
 obtain⟨k2,E2,O2⟩:=σ2
 obtain⟨k3,E3,O3⟩:=σ3
 obtain⟨k4,E4,O4⟩:=σ4
 obtain⟨k5,E5,O5⟩:=σ5
 obtain⟨k6,E6,O6⟩:=σ6
 obtain⟨k7,E7,O7⟩:=σ7
 obtain⟨k8,E8,O8⟩:=σ8
 simp only[Sg.mk.injEq] at q1 q2 q3 q5 q6 q7 q8 KO KW HU HD HWV hk b1 b2 b3 b4 b5 b6 b7 |-
 obtain⟨at0,hat⟩:∃a,a=ag ts En (n-k):=⟨_,rfl⟩
 rw[<-hat] at KO
 have HAT:=zH hat
 clear hat
 obtain⟨W3,hW3⟩:∃W3,W3=((w.alloc (.cells #[.slice p n cap,zI zL (k:Nat),zI zL En,zI zL E,zI zL O] 62)).alloc (.cells #[.string ⟨#[]⟩,.bool false,zI zL 0,zI zL 0,zI zL 0,zI zL 0,zI zL 0,zI zL 0] 45)).alloc (.cells #[.slice none 0 0,zI zL 0,zI zL 0,zI zL 0,zI zL 0] 62):=⟨_,rfl⟩
 have F:Hid (FrL w W3 p n cap (k:Nat) En E O [.string ⟨#[]⟩,.bool false,zI zL 0,zI zL 0,zI zL 0,zI zL 0,zI zL 0,zI zL 0]):=by rw[hW3];exact FrL.new w p n cap (k:Nat) En E O [.string ⟨#[]⟩,.bool false,zI zL 0,zI zL 0,zI zL 0,zI zL 0,zI zL 0,zI zL 0] zah 62 45
 go_enter Tryz.func21,Tryz.ntmps21
 go_wp2_with fail
 rw[<-hW3]
 clear hW3
 obtain⟨c0,c1,c2,c3,c4,f0,f1,f2,f3,f4⟩:=F.out.A
 refine(KO.out _ (HS.out.bel F.out.B)).mono ?_
 rintro _ v0 ⟨rfl,hb⟩
 replace F:=zH (F.out.bel hb)
 have lo:=World.block_lt_of_cell? _ _ F.out.R.c0
 simp only at lo
 clear hb c0 c1 c2 c3 c4 f0 f1 f2 f3 f4
 obtain⟨c0,c1,c2,c3,c4,f0,f1,f2,f3,f4⟩:=F.out.A
 have lc:=World.block_lt_of_cell? _ _ c0
 simp only at lc
 go_wp2_with fail
 have hb:=(Below.refl v0.heap.size v0).alloc (Nat.le_refl _) (.cells #[.string ⟨#[]⟩,.bool false,zI zL 0,zI zL 0,zI zL 0,zI zL 0,zI zL 0,zI zL at0] 45)
 have D:=zH (aH.new v0 [.string ⟨#[]⟩,.bool false,zI zL 0,zI zL 0,zI zL 0,zI zL 0,zI zL 0,zI zL at0] 45)
 replace F:=zH (F.out.bel hb)
 clear hb c0 c1 c2 c3 c4 f0 f1 f2 f3 f4
 obtain⟨c0,c1,c2,c3,c4,f0,f1,f2,f3,f4⟩:=F.out.A
 generalize hV0:v0.alloc (.cells #[.string ⟨#[]⟩,.bool false,zI zL 0,zI zL 0,zI zL 0,zI zL 0,zI zL 0,zI zL at0] 45)=V0 at *
 clear hV0
 generalize v0.heap.size=db at *
 refine(q1.out _ (HS.out.bel F.out.B)).mono ?_
 rintro _ v1 ⟨rfl,hb⟩
 replace F:=zH (F.out.bel hb)
 replace D:=zH (D.out.bel (Nat.succ_pos _) hb)
 clear hb c0 c1 c2 c3 c4 f0 f1 f2 f3 f4
 obtain⟨c0,c1,c2,c3,c4,f0,f1,f2,f3,f4⟩:=F.out.A
 go_wp2_with fail
 obtain⟨hF,hK⟩:=F.out.put (k1:Nat) E1 O1
 replace F:=zH hF
 replace D:=zH (D.out.call (Nat.succ_pos _) hK zac)
 clear hF hK c0 c1 c2 c3 c4 f0 f1 f2 f3 f4
 generalize (((((v1.setCell ⟨w.heap.size,0,none⟩ (.slice p n cap)).setCell ⟨w.heap.size,1,none⟩ (zI zL (k1:Nat))).setCell ⟨w.heap.size,2,none⟩ (zI zL En)).setCell ⟨w.heap.size,3,none⟩ (zI zL E1)).setCell ⟨w.heap.size,4,none⟩ (zI zL O1))=V1 at *
 obtain⟨c0,c1,c2,c3,c4,f0,f1,f2,f3,f4⟩:=F.out.A
 refine(q2.out _ (HS.out.bel F.out.B)).mono ?_
 rintro _ v2 ⟨nmv,rfl,hnmv,hb⟩
 have Hnmv:=zH hnmv
 clear hnmv
 replace F:=zH (F.out.bel hb)
 replace D:=zH (D.out.bel (Nat.succ_pos _) hb)
 clear hb c0 c1 c2 c3 c4 f0 f1 f2 f3 f4
 obtain⟨c0,c1,c2,c3,c4,f0,f1,f2,f3,f4⟩:=F.out.A
 obtain⟨dc,df⟩:=D.out 0 _ rfl
 go_wp2_with fail
 clear dc df
 have hk:=(Kept.refl db v2).setCell 0 none (.string nmv)
 replace F:=zH (F.out.kept hk zac)
 replace D:Hid (aH (v2.setCell ⟨db,0,none⟩ (.string nmv)) db [.string nmv,.bool false,zI zL 0,zI zL 0,zI zL 0,zI zL 0,zI zL 0,zI zL at0]):=D.out.set 0 (.string nmv)
 clear hk
 obtain⟨hF,hK⟩:=F.out.put (k2:Nat) E2 O2
 replace F:=zH hF
 replace D:=zH (D.out.call (Nat.succ_pos _) hK zac)
 clear hF hK c0 c1 c2 c3 c4 f0 f1 f2 f3 f4
 generalize ((((((v2.setCell ⟨db,0,none⟩ (.string nmv)).setCell ⟨w.heap.size,0,none⟩ (.slice p n cap)).setCell ⟨w.heap.size,1,none⟩ (zI zL (k2:Nat))).setCell ⟨w.heap.size,2,none⟩ (zI zL En)).setCell ⟨w.heap.size,3,none⟩ (zI zL E2)).setCell ⟨w.heap.size,4,none⟩ (zI zL O2))=V2 at *
 obtain⟨c0,c1,c2,c3,c4,f0,f1,f2,f3,f4⟩:=F.out.A
 refine(q3.out _ (HS.out.bel F.out.B)).mono ?_
 rintro _ v3 ⟨rfl,hb⟩
 replace F:=zH (F.out.bel hb)
 replace D:=zH (D.out.bel (Nat.succ_pos _) hb)
 clear hb c0 c1 c2 c3 c4 f0 f1 f2 f3 f4
 obtain⟨c0,c1,c2,c3,c4,f0,f1,f2,f3,f4⟩:=F.out.A
 go_wp2_with fail
 obtain⟨hF,hK⟩:=F.out.put (k3:Nat) E3 O3
 replace F:=zH hF
 replace D:=zH (D.out.call (Nat.succ_pos _) hK zac)
 clear hF hK c0 c1 c2 c3 c4 f0 f1 f2 f3 f4
 generalize (((((v3.setCell ⟨w.heap.size,0,none⟩ (.slice p n cap)).setCell ⟨w.heap.size,1,none⟩ (zI zL (k3:Nat))).setCell ⟨w.heap.size,2,none⟩ (zI zL En)).setCell ⟨w.heap.size,3,none⟩ (zI zL E3)).setCell ⟨w.heap.size,4,none⟩ (zI zL O3))=V3 at *
 obtain⟨c0,c1,c2,c3,c4,f0,f1,f2,f3,f4⟩:=F.out.A
 have hb:=(Below.refl V3.heap.size V3).drew
 have hS:Hid (B5 V3.drew w.heap.size (.slice p n cap) (zI zL (k3:Nat)) (zI zL En) (zI zL E3) (zI zL O3)):=F.out.A.bel hb
 refine wp_region_held (S:=fun w':World=>Hid (B5 w' w.heap.size (.slice p n cap) (zI zL (k3:Nat)) (zI zL En) (zI zL E3) (zI zL O3))) mixed ?_
 change wpAnyH _ _ _ _ _ _ _ _ V3.drew
 replace F:=zH (F.out.bel hb)
 replace D:=zH (D.out.bel (Nat.succ_pos _) hb)
 clear hb c0 c1 c2 c3 c4 f0 f1 f2 f3 f4
 generalize V3.drew=U0 at *
 refine tk0 (v:= .agg #[.slice p n cap,zI zL (k3:Nat),zI zL En,zI zL E3,zI zL O3]) zab zab zab (fun _ _ _ h=>h) (Or.inl ⟨zab,?_⟩) hS ?_
 ·exact AJ
 simp only[Act.put,zA,zB,zC]
 refine wpAnyH_ready (rs:=[1]) zab (by simp) (st1 (fun K hK=>?_) AllReadyH.nil)
 go_simp
 refine(KU.out _).mono ?_
 rintro _ v5 ⟨qu,bu,capu,rfl,hs5,hb⟩
 go_wp2_with fail
 replace F:=zH (F.out.bel hb)
 replace D:=zH (D.out.bel (Nat.succ_pos _) hb)
 clear hb
 replace hS:Hid (B5 v5 w.heap.size (.slice p n cap) (zI zL (k3:Nat)) (zI zL En) (zI zL E3) (zI zL O3)):=F.out.A
 refine hK.out _ _ ?_ (fun hHeld=>?_)
 ·exact hS
 clear hK K
 try simp only[Act.put,zA,zB,zC]
 refine wpAnyH_ready (rs:=[2]) zab (by simp) (st2 (fun K hK=>?_) AllReadyH.nil)
 go_simp
 refine(KW.out _ _ _ _ (HS.out.bel F.out.B) hs5).mono ?_
 rintro _ v6 ⟨rfl,hb⟩
 go_wp2_with fail
 replace F:=zH (F.out.bel hb)
 replace D:=zH (D.out.bel (Nat.succ_pos _) hb)
 clear hb hs5
 replace hS:Hid (B5 v6 w.heap.size (.slice p n cap) (zI zL (k3:Nat)) (zI zL En) (zI zL E3) (zI zL O3)):=F.out.A
 refine hK.out _ _ ?_ (fun hHeld=>?_)
 ·exact hS
 clear hK K
 try simp only[Act.put,zA,zB,zC]
 refine wpAnyH_ready (rs:=[3]) zab (by simp) (st3 (fun K hK=>?_) AllReadyH.nil)
 go_simp
 refine hK.out _ _ ?_ (fun hHeld=>?_)
 ·exact hS
 clear hK K
 try simp only[Act.put,zA,zB,zC]
 refine wpAnyH_done zab ?_ _
 clear hS
 rcases HU.out with ⟨u,hu,h0,hkt,hwu,h4,hv4⟩|⟨hno,h4,hv4⟩
 ·subst h0
  obtain rfl:k4=k3+1:=h4.1
  obtain rfl:E4=0:=h4.2.1
  obtain rfl:O4=O3:=h4.2.2
  have hw0:wh5=(u:Int):=by rw[HWV.out];exact if_pos rfl |>.trans (by rw[hwu];rfl)
  subst hw0
  have hk3:IntKind.i64.wrap ((k3:Int)+1)=(k3:Int)+1:=zbo
  have hun:¬(u:Int)<0:=zac
  rw[show((k3+1:Nat):Int)=(k3:Int)+1 by omega] at q5
  obtain⟨c0,c1,c2,c3,c4,f0,f1,f2,f3,f4⟩:=F.out.A
  go_wp2_with fail
  obtain⟨hF,hK⟩:=F.out.inc ((k3:Int)+1)
  replace F:=zH hF
  replace D:=zH (D.out.call (Nat.succ_pos _) hK zac)
  clear hF hK c0 c1 c2 c3 c4 f0 f1 f2 f3 f4
  generalize v6.setCell ⟨w.heap.size,1,none⟩ (zI zL ((k3:Int)+1))=V5 at *
  obtain⟨c0,c1,c2,c3,c4,f0,f1,f2,f3,f4⟩:=F.out.A
  refine(KT.out u hu _).mono ?_
  rintro _ v7 ⟨rfl,hb⟩
  replace F:=zH (F.out.bel hb)
  replace D:=zH (D.out.bel (Nat.succ_pos _) hb)
  clear hb c0 c1 c2 c3 c4 f0 f1 f2 f3 f4
  obtain⟨c0,c1,c2,c3,c4,f0,f1,f2,f3,f4⟩:=F.out.A
  obtain⟨d1,g1⟩:=D.out 1 _ rfl
  obtain⟨d2,g2⟩:=D.out 2 _ rfl
  obtain⟨d3,g3⟩:=D.out 3 _ rfl
  obtain⟨d4,g4⟩:=D.out 4 _ rfl
  go_wp2_with fail
  clear d1 d2 d3 d4 g1 g2 g3 g4
  have hk:=((((Kept.refl db v7).setCell 1 none (.bool (uF u))).setCell 2 none (zI zL (uM u))).setCell 3 none (zI zL (uA u))).setCell 4 none (zI zL (uD u))
  replace F:=zH (F.out.kept hk zac)
  replace D:Hid (aH ((((v7.setCell ⟨db,1,none⟩ (.bool (uF u))).setCell ⟨db,2,none⟩ (zI zL (uM u))).setCell ⟨db,3,none⟩ (zI zL (uA u))).setCell ⟨db,4,none⟩ (zI zL (uD u))) db [.string nmv,.bool (uF u),zI zL (uM u),zI zL (uA u),zI zL (uD u),zI zL 0,zI zL 0,zI zL at0]):=(((D.out.set 1 (.bool (uF u))).set 2 (zI zL (uM u))).set 3 (zI zL (uA u))).set 4 (zI zL (uD u))
  clear hk c0 c1 c2 c3 c4 f0 f1 f2 f3 f4
  generalize (((v7.setCell ⟨db,1,none⟩ (.bool (uF u))).setCell ⟨db,2,none⟩ (zI zL (uM u))).setCell ⟨db,3,none⟩ (zI zL (uA u))).setCell ⟨db,4,none⟩ (zI zL (uD u))=V6 at *
  obtain⟨c0,c1,c2,c3,c4,f0,f1,f2,f3,f4⟩:=F.out.A
  refine(q5.out _ (HS.out.bel F.out.B)).mono ?_
  rintro _ v9 ⟨lov,rfl,hlov,hb⟩
  have Hlov:=zH hlov
  clear hlov
  replace F:=zH (F.out.bel hb)
  replace D:=zH (D.out.bel (Nat.succ_pos _) hb)
  clear hb c0 c1 c2 c3 c4 f0 f1 f2 f3 f4
  obtain⟨c0,c1,c2,c3,c4,f0,f1,f2,f3,f4⟩:=F.out.A
  obtain⟨dc,df⟩:=D.out 5 _ rfl
  go_wp2_with fail
  clear dc df
  have hk:=(Kept.refl db v9).setCell 5 none (zI zL lov)
  replace F:=zH (F.out.kept hk zac)
  replace D:Hid (aH (v9.setCell ⟨db,5,none⟩ (zI zL lov)) db [.string nmv,.bool (uF u),zI zL (uM u),zI zL (uA u),zI zL (uD u),zI zL lov,zI zL 0,zI zL at0]):=D.out.set 5 (zI zL lov)
  clear hk
  obtain⟨hF,hK⟩:=F.out.put (k5:Nat) E5 O5
  replace F:=zH hF
  replace D:=zH (D.out.call (Nat.succ_pos _) hK zac)
  clear hF hK c0 c1 c2 c3 c4 f0 f1 f2 f3 f4
  generalize ((((((v9.setCell ⟨db,5,none⟩ (zI zL lov)).setCell ⟨w.heap.size,0,none⟩ (.slice p n cap)).setCell ⟨w.heap.size,1,none⟩ (zI zL (k5:Nat))).setCell ⟨w.heap.size,2,none⟩ (zI zL En)).setCell ⟨w.heap.size,3,none⟩ (zI zL E5)).setCell ⟨w.heap.size,4,none⟩ (zI zL O5))=V14 at *
  obtain⟨c0,c1,c2,c3,c4,f0,f1,f2,f3,f4⟩:=F.out.A
  refine(q6.out _ (HS.out.bel F.out.B)).mono ?_
  rintro _ v10 ⟨rfl,hb⟩
  replace F:=zH (F.out.bel hb)
  replace D:=zH (D.out.bel (Nat.succ_pos _) hb)
  clear hb c0 c1 c2 c3 c4 f0 f1 f2 f3 f4
  obtain⟨c0,c1,c2,c3,c4,f0,f1,f2,f3,f4⟩:=F.out.A
  go_wp2_with fail
  obtain⟨hF,hK⟩:=F.out.put (k6:Nat) E6 O6
  replace F:=zH hF
  replace D:=zH (D.out.call (Nat.succ_pos _) hK zac)
  clear hF hK c0 c1 c2 c3 c4 f0 f1 f2 f3 f4
  generalize (((((v10.setCell ⟨w.heap.size,0,none⟩ (.slice p n cap)).setCell ⟨w.heap.size,1,none⟩ (zI zL (k6:Nat))).setCell ⟨w.heap.size,2,none⟩ (zI zL En)).setCell ⟨w.heap.size,3,none⟩ (zI zL E6)).setCell ⟨w.heap.size,4,none⟩ (zI zL O6))=V15 at *
  obtain⟨c0,c1,c2,c3,c4,f0,f1,f2,f3,f4⟩:=F.out.A
  refine(q7.out _ (HS.out.bel F.out.B)).mono ?_
  rintro _ v11 ⟨hiv,rfl,hhiv,hb⟩
  have Hhiv:=zH hhiv
  clear hhiv
  replace F:=zH (F.out.bel hb)
  replace D:=zH (D.out.bel (Nat.succ_pos _) hb)
  clear hb c0 c1 c2 c3 c4 f0 f1 f2 f3 f4
  obtain⟨c0,c1,c2,c3,c4,f0,f1,f2,f3,f4⟩:=F.out.A
  obtain⟨dc,df⟩:=D.out 6 _ rfl
  go_wp2_with fail
  clear dc df
  have hk:=(Kept.refl db v11).setCell 6 none (zI zL hiv)
  replace F:=zH (F.out.kept hk zac)
  replace D:Hid (aH (v11.setCell ⟨db,6,none⟩ (zI zL hiv)) db [.string nmv,.bool (uF u),zI zL (uM u),zI zL (uA u),zI zL (uD u),zI zL lov,zI zL hiv,zI zL at0]):=D.out.set 6 (zI zL hiv)
  clear hk
  obtain⟨hF,hK⟩:=F.out.put (k7:Nat) E7 O7
  replace F:=zH hF
  replace D:=zH (D.out.call (Nat.succ_pos _) hK zac)
  clear hF hK c0 c1 c2 c3 c4 f0 f1 f2 f3 f4
  generalize ((((((v11.setCell ⟨db,6,none⟩ (zI zL hiv)).setCell ⟨w.heap.size,0,none⟩ (.slice p n cap)).setCell ⟨w.heap.size,1,none⟩ (zI zL (k7:Nat))).setCell ⟨w.heap.size,2,none⟩ (zI zL En)).setCell ⟨w.heap.size,3,none⟩ (zI zL E7)).setCell ⟨w.heap.size,4,none⟩ (zI zL O7))=V16 at *
  obtain⟨c0,c1,c2,c3,c4,f0,f1,f2,f3,f4⟩:=F.out.A
  have hb:=(Below.refl V16.heap.size V16).drew
  have hS:Hid (aH V16.drew db [.string nmv,.bool (uF u),zI zL (uM u),zI zL (uA u),zI zL (uD u),zI zL lov,zI zL hiv,zI zL at0]/\B5 V16.drew w.heap.size (.slice p n cap) (zI zL (k7:Nat)) (zI zL En) (zI zL E7) (zI zL O7)):=⟨D.out.bel (Nat.succ_pos _) hb,F.out.A.bel hb⟩
  refine wp_region_held (S:=fun w':World=>Hid (aH w' db [.string nmv,.bool (uF u),zI zL (uM u),zI zL (uA u),zI zL (uD u),zI zL lov,zI zL hiv,zI zL at0]/\B5 w' w.heap.size (.slice p n cap) (zI zL (k7:Nat)) (zI zL En) (zI zL E7) (zI zL O7))) mixed ?_
  change wpAnyH _ _ _ _ _ _ _ _ V16.drew
  replace F:=zH (F.out.bel hb)
  replace D:=zH (D.out.bel (Nat.succ_pos _) hb)
  clear hb c0 c1 c2 c3 c4 f0 f1 f2 f3 f4
  generalize V16.drew=U2 at *
  refine tk0 (v:= .agg #[.string nmv,.bool (uF u),zI zL (uM u),zI zL (uA u),zI zL (uD u),zI zL lov,zI zL hiv,zI zL at0]) zab zab zab (fun _ _ _ h=>h) (Or.inl ⟨zab,?_⟩) hS ?_
  ·intro w' hSw
   exact aY rfl rfl (aS _ 8 zab zab w' db _ rfl hSw.out.1.row)
  simp only[Act.put,zA,zB,zC]
  refine tk1 (v:= .agg #[.slice p n cap,zI zL (k7:Nat),zI zL En,zI zL E7,zI zL O7]) zab zab zab (fun _ _ _ h=>h) (Or.inl ⟨zab,?_⟩) hS ?_
  ·exact EM
  simp only[Act.put,zA,zB,zC]
  refine wpAnyH_ready (rs:=[2]) zab (by simp) (st2 (fun K hK=>?_) AllReadyH.nil)
  go_simp
  refine(q8.out _ (HS.out.bel F.out.B)).mono ?_
  rintro _ v12 ⟨rfl,hb⟩
  go_wp2_with fail
  replace F:=zH (F.out.bel hb)
  replace D:=zH (D.out.bel (Nat.succ_pos _) hb)
  clear hb
  replace hS:Hid (aH v12 db [.string nmv,.bool (uF u),zI zL (uM u),zI zL (uA u),zI zL (uD u),zI zL lov,zI zL hiv,zI zL at0]/\B5 v12 w.heap.size (.slice p n cap) (zI zL (k7:Nat)) (zI zL En) (zI zL E7) (zI zL O7)):=⟨D.out,F.out.A⟩
  refine hK.out _ _ ?_ (fun hHeld=>?_)
  ·exact hS
  clear hK K
  try simp only[Act.put,zA,zB,zC]
  obtain⟨n0,m0⟩:=F.out.N 0 _ rfl
  obtain⟨n1,m1⟩:=F.out.N 1 _ rfl
  obtain⟨n2,m2⟩:=F.out.N 2 _ rfl
  obtain⟨n3,m3⟩:=F.out.N 3 _ rfl
  obtain⟨n4,m4⟩:=F.out.N 4 _ rfl
  obtain⟨n5,m5⟩:=F.out.N 5 _ rfl
  obtain⟨n6,m6⟩:=F.out.N 6 _ rfl
  obtain⟨n7,m7⟩:=F.out.N 7 _ rfl
  obtain⟨e0,e1,e2,e3,e4,g0,g1,g2,g3,g4⟩:=F.out.R
  have BV:=zH F.out.B
  refine wpAnyH_ready (rs:=[3]) zab (by simp) (st3 (fun K hK=>?_) AllReadyH.nil)
  go_simp
  have hk:=(((((((((Kept.refl (w.heap.size+1) v12).setCell 0 none (.string nmv)).setCell 1 none (.bool (uF u))).setCell 2 none (zI zL (uM u))).setCell 3 none (zI zL (uA u))).setCell 4 none (zI zL (uD u))).setCell 5 none (zI zL lov)).setCell 6 none (zI zL hiv)).setCell 7 none (zI zL at0))
  have hS0:=hS
  replace hS:Hid (aH _ db [.string nmv,.bool (uF u),zI zL (uM u),zI zL (uA u),zI zL (uD u),zI zL lov,zI zL hiv,zI zL at0]/\B5 _ w.heap.size (.slice p n cap) (zI zL (k7:Nat)) (zI zL En) (zI zL E7) (zI zL O7)):=⟨hS0.out.1.call (Nat.succ_pos _) hk zac,hS0.out.2.kept hk zac⟩
  clear hk hS0
  refine hK.out _ _ ?_ (fun hHeld=>?_)
  ·exact hS
  clear hK K
  try simp only[Act.put,zA,zB,zC]
  refine wpAnyH_ready (rs:=[4]) zab (by simp) (st4 (fun K hK=>?_) AllReadyH.nil)
  go_simp
  have hk:=Kept.set5 (Kept.refl (w.heap.size+2) ((((((((v12.setCell ⟨w.heap.size+1,0,none⟩ (.string nmv)).setCell ⟨w.heap.size+1,1,none⟩ (.bool (uF u))).setCell ⟨w.heap.size+1,2,none⟩ (zI zL (uM u))).setCell ⟨w.heap.size+1,3,none⟩ (zI zL (uA u))).setCell ⟨w.heap.size+1,4,none⟩ (zI zL (uD u))).setCell ⟨w.heap.size+1,5,none⟩ (zI zL lov)).setCell ⟨w.heap.size+1,6,none⟩ (zI zL hiv)).setCell ⟨w.heap.size+1,7,none⟩ (zI zL at0))) (.slice p n cap) (zI zL (k8:Nat)) (zI zL En) (zI zL E8) (zI zL O8)
  have hS0:=hS
  replace hS:Hid (aH _ db [.string nmv,.bool (uF u),zI zL (uM u),zI zL (uA u),zI zL (uD u),zI zL lov,zI zL hiv,zI zL at0]/\B5 _ w.heap.size (.slice p n cap) (zI zL (k7:Nat)) (zI zL En) (zI zL E7) (zI zL O7)):=⟨hS0.out.1.call (Nat.succ_pos _) hk zac,hS0.out.2.kept hk zac⟩
  clear hk hS0
  refine hK.out _ _ ?_ (fun hHeld=>?_)
  ·exact hS
  clear hK K
  try simp only[Act.put,zA,zB,zC]
  refine wpAnyH_done zab ?_ _
  go_wp2_with fail
  refine bodyPost_ret (v:= .tuple #[.agg #[.string nmv,.bool (uF u),zI zL (uM u),zI zL (uA u),zI zL (uD u),zI zL lov,zI zL hiv,zI zL at0],.agg #[.slice p n cap,zI zL (k8:Nat),zI zL En,zI zL E8,zI zL O8]]) (by simp[results,Tryz.results21,go_sem,n0,n1,n2,n3,n4,n5,n6,n7,e0,e1,e2,e3,e4]) rfl ⟨[.string nmv,.bool (uF u),zI zL (uM u),zI zL (uA u),zI zL (uD u),zI zL lov,zI zL hiv,zI zL at0],rfl,zbj,rfl,fun d hd=>?_,zae⟩
  obtain⟨-,nm,u',lo',hi',a1,a2,a3,a4,rfl⟩:=HD.out d hd
  obtain rfl:u=u':=by rw[hv4] at a2;exact Option.some.inj a2
  rw[Hnmv.out nm a1,Hlov.out lo' a3,Hhiv.out hi' a4,HAT.out,<-hl]
  rfl
 ·obtain rfl:k4=k3:=h4.1
  have hw0:wh5 = -1:=by
   rw[HWV.out]
   rcases hno with h|h
   ·exact if_neg h
   ·rw[h];split<;>rfl
  subst hw0
  have KF:Hid (∀w,Calls Tryz.prog 27 #[.agg #[.slice p n cap,zI zL (k4:Nat),zI zL En,zI zL E3,zI zL O3],zI zL 10,zI zL (ag ts En (n-k4))] w fun e w'=>e = .returned (.agg #[.slice p n cap,zI zL (k4:Nat),zI zL En,zI zL E4,zI zL O4])/\RowKit.Below w.heap.size w w'):=fun w=>by
   have:=bA p n cap k4 En E3 O3 10 (ag ts En (n-k4)) w
   rw[h4.2.1,h4.2.2,hl]
   exact this
  have KO3:=zH (fun w hS=>aj ts p b off cap n k4 En E3 O3 w hS zac)
  generalize ag ts En (n-k4)=at3 at *
  clear h4 hno
  obtain⟨c0,c1,c2,c3,c4,f0,f1,f2,f3,f4⟩:=F.out.A
  go_wp2_with fail
  have hb:=(Below.refl v6.heap.size v6).drew
  have hS:True:=trivial
  refine wp_region_held (S:=fun _:World=>True) mixed ?_
  change wpAnyH _ _ _ _ _ _ _ _ v6.drew
  replace F:=zH (F.out.bel hb)
  replace D:=zH (D.out.bel (Nat.succ_pos _) hb)
  clear hb c0 c1 c2 c3 c4 f0 f1 f2 f3 f4
  generalize v6.drew=U1 at *
  obtain⟨c0,c1,c2,c3,c4,f0,f1,f2,f3,f4⟩:=F.out.A
  refine wpAnyH_ready (rs:=[0,1]) zab (by simp) (st0 (fun K hK=>?_) (st1 (fun K hK=>?_) AllReadyH.nil))
  ·go_simp
   refine hK.out _ _ ?_ (fun hHeld=>?_)
   ·exact hS
   clear hK K
   try simp only[Act.put,zA,zB,zC]
   refine wpAnyH_ready (rs:=[1]) zab (by simp) (st1 (fun K hK=>?_) AllReadyH.nil)
   exact DZ
  ·go_simp
   refine hK.out _ _ ?_ (fun hHeld=>?_)
   ·exact hS
   clear hK K
   try simp only[Act.put,zA,zB,zC]
   refine wpAnyH_ready (rs:=[0,2]) zab (by simp) (st0 (fun K hK=>?_) (st2 (fun K hK=>?_) AllReadyH.nil))
   ·exact DZ
   ·go_simp
    refine(KO3.out _ (HS.out.bel F.out.B)).mono ?_
    rintro _ v7 ⟨rfl,hb⟩
    go_wp2_with fail
    replace F:=zH (F.out.bel hb)
    replace D:=zH (D.out.bel (Nat.succ_pos _) hb)
    clear hb c0 c1 c2 c3 c4 f0 f1 f2 f3 f4
    obtain⟨c0,c1,c2,c3,c4,f0,f1,f2,f3,f4⟩:=F.out.A
    refine hK.out _ _ ?_ (fun hHeld=>?_)
    ·exact hS
    clear hK K
    try simp only[Act.put,zA,zB,zC]
    refine wpAnyH_ready (rs:=[0]) zab (by simp) (st0 (fun K hK=>?_) AllReadyH.nil)
    go_simp
    exact zz1
end Go.Proofs.YtnjfolljbfkojaaGreatDoor
