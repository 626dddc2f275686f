import Derived.Test.YtnjfolljbfkojaaGreatDoorMBK
set_option maxRecDepth 100000
set_option maxHeartbeats 20000000
namespace Go.Proofs.YtnjfolljbfkojaaGreatDoor
open Go.Value renaming int→zI
open Go.IntKind renaming i64→zL
open Go.Lib renaming hid→zH
open Go.RowKit Lx Pa
theorem qL (w:World):Calls Tryz.prog 4 #[] w fun e w'=>e = .returned (.bool true)/\RowKit.Below w.heap.size w w':=by
 go_enter Tryz.func4,Tryz.ntmps4
 refine wp_hide ?_
 intro C7 hC7
 have HC7:=zH hC7
 clear hC7
 go_wp2_with fail
 refine(EO (l:=hs1) _ (by rfl) by1 zah).mono ?_
 rintro _ v ⟨vd,vr,vg,rfl,hV,hb⟩
 obtain⟨rfl,hd,ns,hns,hr,hn⟩:=hV.1 rfl
 obtain⟨g1,c1,rfl,-,hg1,hd1,hc1⟩:=jJ hd zah
 obtain⟨g2,c2,rfl,-,hg2,hr1,hc2⟩:=jJ hr zah
 have HD1:=zH hd1
 have HR1:=zH hr1
 have HN:=zH hn
 have HB:=zH hb
 clear hV hd hr hd1 hr1 hn hb
 go_wp2_with fail
 obtain⟨⟨x,y⟩,rfl⟩:∃z,ns=[z]:=by
  cases ns with
  | nil=>simp at hns
  | cons z l=>cases l with
   | nil=>exact⟨z,rfl⟩
   | cons _ _=>simp at hns
 have hr1':bI v g2 (rV (bY hs1) hR x y):=by
  have:=HR1.out
  unfold rFlat rFlat at this
  rw[List.append_nil] at this
  exact this
 have hnx:NodeA v (fun _=>True) (bY hs1) hR.whn x/\NodeA v (fun _=>True) (bY hs1) hR.give y :=
  ⟨NodeA.keep (Nat.le_refl _) (fun _ _ _=>rfl) (fun _ _ _=>trivial) _ _ (HN.out 0 (by simp) (by simp)).1,NodeA.keep (Nat.le_refl _) (fun _ _ _=>rfl) (fun _ _ _=>trivial) _ _ (HN.out 0 (by simp) (by simp)).2⟩
 have hd1':bI v g1 (dV (bY hs1) hD):=by
  have:=HD1.out
  simpa using this
 clear HR1 HN HD1 hns
 have al:∀(V:World) (o:Obj),RowKit.Below V.heap.size V (V.alloc o):=fun V o=>(Below.refl _ _).alloc (Nat.le_refl _) o
 have sz:∀(V:World) (o:Obj),(V.alloc o).heap.size=V.heap.size+1:=fun V o=>by simp
 obtain⟨n0,hn0⟩:∃n,n=v.heap.size:=⟨_,rfl⟩
 obtain⟨V1,hV1⟩:∃V,V=v.alloc (.cells [.slice (some ⟨g1,0,none⟩) 1 c1,.slice (some ⟨g2,0,none⟩) 1 c2].toArray 26):=⟨_,rfl⟩
 obtain⟨V2,hV2⟩:∃V,V=V1.alloc (.cells [zI zL 2,zI zL 61,.string (bs [114,111,111,109,115]),zI zL 0,zI zL 0,.bool false,zI zL 0,zI zL 0,zI zL 0,.slice none 0 0].toArray 36):=⟨_,rfl⟩
 obtain⟨V3,hV3⟩:∃V,V=V2.alloc (.cells [zI zL 1,zI zL 69,.string ⟨#[]⟩,zI zL 1250,zI zL 1,.bool false,zI zL 1,zI zL 0,zI zL 0,.slice none 0 0].toArray 36):=⟨_,rfl⟩
 obtain⟨V4,hV4⟩:∃V,V=V3.alloc (.cells [.string (bs [114,111,111,109,115]),.bool false,zI zL 0,zI zL 0,zI zL 0,zI zL 1,zI zL 5,zI zL 0].toArray 45):=⟨_,rfl⟩
 have z1:V1.heap.size=n0+1:=by rw[hV1,sz,hn0]
 have z2:V2.heap.size=n0+1+1:=by rw[hV2,sz,z1]
 have z3:V3.heap.size=n0+1+1+1:=by rw[hV3,sz,z2]
 have z4:V4.heap.size=n0+1+1+1+1:=by rw[hV4,sz,z3]
 have b1:RowKit.Below v.heap.size v V1:=by rw[hV1];exact al _ _
 have b2:RowKit.Below V1.heap.size V1 V2:=by rw[hV2];exact al _ _
 have b3:RowKit.Below V2.heap.size V2 V3:=by rw[hV3];exact al _ _
 have b4:RowKit.Below V3.heap.size V3 V4:=by rw[hV4];exact al _ _
 have b14:RowKit.Below v.heap.size v V4:=((b1.trans (b2.mono zac)).trans (b3.mono zac)).trans (b4.mono zac)
 have cc:At2 V4 n0 (.slice (some ⟨g1,0,none⟩) 1 c1) (.slice (some ⟨g2,0,none⟩) 1 c2):=by
  have:=At2.new v (.slice (some ⟨g1,0,none⟩) 1 c1) (.slice (some ⟨g2,0,none⟩) 1 c2) 26
  rw[<-hn0] at this
  have h1:At2 V1 n0 (.slice (some ⟨g1,0,none⟩) 1 c1) (.slice (some ⟨g2,0,none⟩) 1 c2):=by rw[hV1];exact this
  exact((h1.bel b2).bel b3).bel b4
 have r3:bI V4 (n0+1) [zI zL 2,zI zL 61,.string (bs [114,111,111,109,115]),zI zL 0,zI zL 0,.bool false,zI zL 0,zI zL 0,zI zL 0,.slice none 0 0]:=by
  have:=iX V1 [zI zL 2,zI zL 61,.string (bs [114,111,111,109,115]),zI zL 0,zI zL 0,.bool false,zI zL 0,zI zL 0,zI zL 0,.slice none 0 0] 36
  rw[z1,<-hV2] at this
  exact(this.bel (by simp) b3).bel (by simp) b4
 have r4:bI V4 (n0+1+1) [zI zL 1,zI zL 69,.string ⟨#[]⟩,zI zL 1250,zI zL 1,.bool false,zI zL 1,zI zL 0,zI zL 0,.slice none 0 0]:=by
  have:=iX V2 [zI zL 1,zI zL 69,.string ⟨#[]⟩,zI zL 1250,zI zL 1,.bool false,zI zL 1,zI zL 0,zI zL 0,.slice none 0 0] 36
  rw[z2,<-hV3] at this
  exact this.bel (by simp) b4
 have r5:bI V4 (n0+1+1+1) [.string (bs [114,111,111,109,115]),.bool false,zI zL 0,zI zL 0,zI zL 0,zI zL 1,zI zL 5,zI zL 0]:=by
  have:=iX V3 [.string (bs [114,111,111,109,115]),.bool false,zI zL 0,zI zL 0,zI zL 0,zI zL 1,zI zL 5,zI zL 0] 45
  rw[z3,<-hV4] at this
  exact this
 change Code.wp _ _ _ _ ((((v.alloc (.cells [.slice (some ⟨g1,0,none⟩) 1 c1,.slice (some ⟨g2,0,none⟩) 1 c2].toArray 26)).alloc (.cells [zI zL 2,zI zL 61,.string (bs [114,111,111,109,115]),zI zL 0,zI zL 0,.bool false,zI zL 0,zI zL 0,zI zL 0,.slice none 0 0].toArray 36)).alloc (.cells [zI zL 1,zI zL 69,.string ⟨#[]⟩,zI zL 1250,zI zL 1,.bool false,zI zL 1,zI zL 0,zI zL 0,.slice none 0 0].toArray 36)).alloc (.cells [.string (bs [114,111,111,109,115]),.bool false,zI zL 0,zI zL 0,zI zL 0,zI zL 1,zI zL 5,zI zL 0].toArray 45))
 rw[<-hV1,<-hV2,<-hV3,<-hV4,<-hn0]
 have HB4:Hid (RowKit.Below w.heap.size w V4):=HB.out.trans (b14.mono HB.out.size)
 have F1:=zH (hd1'.bel (by simp[dV]) b14)
 have F2:=zH (hr1'.bel zda b14)
 have F3:=zH (NodeA.bel b14 _ _ hnx.1)
 have F4:=zH (NodeA.bel b14 _ _ hnx.2)
 have F5:=zH cc
 have F6:=zH r5
 have R3:=zH r3
 have R4:=zH r4
 have HW:=zH HB.out.size
 have HN0:=zH hn0
 clear hV1 hV2 hV3 hV4 z1 z2 z3 b1 b2 b3 b4 b14 cc r3 r4 r5 hd1' hr1' hnx HB hn0 hc1 hc2 hg1 hg2
 rw[HC7.out]
 clear HC7
 refine wp_region_lit ?_
 refine iw (.agg #[zI zL 0,zI zL 36525]) rfl rfl zab ?_
 simp only[Act.put,zA,zB,zC]
 refine iw (.agg #[zI zL 17,zI zL 27,.string ⟨#[]⟩,zI zL 0,zI zL 0,.bool false,zI zL 0,zI zL 0,zI zL 0,.slice none 0 0]) rfl rfl zab ?_
 simp only[Act.put,zA,zB,zC]
 refine tT rfl rfl rfl (nM _ _ _ rfl R3.out) ?_
 simp only[Act.put,zA,zB,zC]
 refine tT rfl rfl rfl (nM _ _ _ rfl R4.out) ?_
 simp only[Act.put,zA,zB,zC]
 refine vC (v:= .slice (some ⟨V4.heap.size,0,none⟩) 2 2) (w':=V4.alloc (.cells (hN1++hN2).toArray 36)) rfl rfl rfl rfl zab ?_
 simp only[Act.put,zA,zB,zC]
 rw[z4]
 refine iw (.agg #[zI zL 5,zI zL 61,.string ⟨#[]⟩,zI zL 0,zI zL 0,.bool false,zI zL 0,zI zL 0,zI zL 0,.slice (some ⟨n0+1+1+1+1,0,none⟩) 2 2]) rfl rfl zab ?_
 simp only[Act.put,zA,zB,zC]
 obtain⟨LL,hLL⟩:∃LL,LL=rV idO hR' (⟨17,27,⟨#[]⟩,0,0,false,0,0,0,none,0,0⟩:NV) (⟨5,61,⟨#[]⟩,0,0,false,0,0,0,some ⟨n0+1+1+1+1,0,none⟩,2,2⟩:NV):=⟨_,rfl⟩
 have hL28:LL.toArray.size=28:=by rw[hLL];rfl
 have hLo:LL.toArray.all (·.oneCell')=true:=by rw[hLL];simp[rV,NV.cells,Value.oneCell']
 refine iw (.agg LL.toArray) rfl rfl (by rw[hLL];kernel_rfl) ?_
 simp only[Act.put,zA,zB,zC]
 refine jA rfl rfl (bK _) ?_
 simp only[Act.put,zA,zB,zC]
 refine iL rfl rfl rfl rfl (lh LL.toArray hL28 hLo _) ?_
 obtain⟨V5,hV5⟩:∃V,V=V4.alloc (.cells (hN1++hN2).toArray 36):=⟨_,rfl⟩
 obtain⟨V6,hV6⟩:∃V,V=V5.alloc (.cells LL.toArray 49):=⟨_,rfl⟩
 have z5:V5.heap.size=n0+1+1+1+1+1:=by rw[hV5,sz,z4]
 have z6:V6.heap.size=n0+1+1+1+1+1+1:=by rw[hV6,sz,z5]
 have b5:RowKit.Below V4.heap.size V4 V5:=by rw[hV5];exact al _ _
 have b6:RowKit.Below V5.heap.size V5 V6:=by rw[hV6];exact al _ _
 have b46:RowKit.Below V4.heap.size V4 V6:=b5.trans (b6.mono zac)
 have hk5:V5.heap[n0+1+1+1+1]? = some (.cells ([(⟨2,61,bs [114,111,111,109,115],0,0,false,0,0,0,none,0,0⟩:NV),(⟨1,69,⟨#[]⟩,1250,1,false,1,0,0,none,0,0⟩:NV)].flatMap NV.cells).toArray 36):=by
  rw[hV5,<-z4]
  exact heap_alloc_last V4 _
 have my:NodeA V5 (fun _=>True) idO hR'.give (⟨5,61,⟨#[]⟩,0,0,false,0,0,0,some ⟨n0+1+1+1+1,0,none⟩,2,2⟩:NV):=dX (T:=36) [_,_] [(⟨2,61,bs [114,111,111,109,115],0,0,false,0,0,0,none,0,0⟩:NV),(⟨1,69,⟨#[]⟩,1250,1,false,1,0,0,none,0,0⟩:NV)] 5 61 2 rfl trivial (fun i h h'=>by
  match i,h,h' with
  | 0,_,_=>exact rT _ _ _ _ _ _ _ _ _
  | 1,_,_=>exact rT _ _ _ _ _ _ _ _ _) hk5
 have r6:bI V6 (n0+1+1+1+1+1) LL:=by
  have:=iX V5 LL 49
  rw[z5,<-hV6] at this
  exact this
 have H6:=zH (HF.mk (F5.out.bel b46) (F1.out.bel (by simp[dV]) b46) (F2.out.bel zda b46) (NodeA.bel b46 _ _ F3.out) (NodeA.bel b46 _ _ F4.out) (F6.out.bel (by simp) b46) (hLL▸r6) (rT V6 (fun _=>True) idO 17 27 [] 0 0 1) (NodeA.bel b6 _ _ my))
 have HB6:=zH (HB4.out.trans (b46.mono (by have:=HW.out;have:=HN0.out;omega)))
 have HW6:Hid (w.heap.size<=V6.heap.size):=HB6.out.size
 rw[<-hV5]
 rw[<-hV6,z5]
 clear hV5 hV6 z4 z5 z6 b5 b6 b46 hk5 my r6 hLL hL28 hLo F1 F2 F3 F4 F5 F6 R3 R4 HB4 HW HN0 al
 go_wp2_with fail
 refine(Fe (l:=hs4) _ (by rfl) ex4 zah).mono ?_
 rintro _ v2 ⟨⟨xo,xa,xs,xn,xd,xf,xm,xr,xy,xq,xk,xc⟩,rfl,hx,hb⟩
 have H7:=zH (H6.out.bel hb)
 have HX:Hid (NodeA v2 (fun _=>True) (bY hs4) hN ⟨xo,xa,xs,xn,xd,xf,xm,xr,xy,xq,xk,xc⟩):=NodeA.keep (Nat.le_refl _) (fun _ _ _=>rfl) (fun _ _ _=>trivial) _ _ hx
 have HB7:=zH (HB6.out.trans (hb.mono HW6.out))
 clear hx hb H6 HB6 HW6
 unfold nv
 go_wp2_with fail
 have al:∀(V:World) (o:Obj),RowKit.Below V.heap.size V (V.alloc o):=fun V o=>(Below.refl _ _).alloc (Nat.le_refl _) o
 obtain⟨n1,hn1⟩:∃n,n=v2.heap.size:=⟨_,rfl⟩
 obtain⟨W1,hW1⟩:∃V,V=v2.alloc (.cells [zI zL xo,zI zL xa,.string xs,zI zL xn,zI zL xd,.bool xf,zI zL xm,zI zL xr,zI zL xy,.slice xq xk xc].toArray 36):=⟨_,rfl⟩
 obtain⟨W2,hW2⟩:∃V,V=W1.alloc (.cells ([hNb,hNo].flatMap NV.cells).toArray 36):=⟨_,rfl⟩
 obtain⟨W3,hW3⟩:∃V,V=W2.alloc (.cells (NV.cells (hNs (n1+1))).toArray 36):=⟨_,rfl⟩
 obtain⟨W4,hW4⟩:∃V,V=W3.alloc (.cells ([hNs (n1+1),hNa].flatMap NV.cells).toArray 36):=⟨_,rfl⟩
 obtain⟨W5,hW5⟩:∃V,V=W4.alloc (.cells (NV.cells (hNl (n1+1+1+1))).toArray 36):=⟨_,rfl⟩
 have z1:W1.heap.size=n1+1:=by rw[hW1,sz,hn1]
 have z2:W2.heap.size=n1+1+1:=by rw[hW2,sz,z1]
 have z3:W3.heap.size=n1+1+1+1:=by rw[hW3,sz,z2]
 have z4:W4.heap.size=n1+1+1+1+1:=by rw[hW4,sz,z3]
 have z5:W5.heap.size=n1+1+1+1+1+1:=by rw[hW5,sz,z4]
 have b1:RowKit.Below v2.heap.size v2 W1:=by rw[hW1];exact al _ _
 have b2:RowKit.Below W1.heap.size W1 W2:=by rw[hW2];exact al _ _
 have b3:RowKit.Below W2.heap.size W2 W3:=by rw[hW3];exact al _ _
 have b4:RowKit.Below W3.heap.size W3 W4:=by rw[hW4];exact al _ _
 have b5:RowKit.Below W4.heap.size W4 W5:=by rw[hW5];exact al _ _
 have b15:RowKit.Below W1.heap.size W1 W5:=((b2.trans (b3.mono zac)).trans (b4.mono zac)).trans (b5.mono zac)
 have b05:RowKit.Below v2.heap.size v2 W5:=b1.trans (b15.mono zac)
 have r7:bI W5 n1 [zI zL xo,zI zL xa,.string xs,zI zL xn,zI zL xd,.bool xf,zI zL xm,zI zL xr,zI zL xy,.slice xq xk xc]:=by
  have:=iX v2 [zI zL xo,zI zL xa,.string xs,zI zL xn,zI zL xd,.bool xf,zI zL xm,zI zL xr,zI zL xy,.slice xq xk xc] 36
  rw[<-hn1,<-hW1] at this
  exact this.bel (by simp) b15
 have r11:bI W5 (n1+1+1+1+1) (NV.cells (hNl (n1+1+1+1))):=by
  have:=iX W4 (NV.cells (hNl (n1+1+1+1))) 36
  rw[z4,<-hW5] at this
  exact this
 have hk2:W2.heap[n1+1]? = some (.cells ([hNb,hNo].flatMap NV.cells).toArray 36):=by
  rw[hW2,<-z1];exact heap_alloc_last W1 _
 have ms:NodeA W2 (fun _=>True) idO (.mk 3 4 [] 0 0 1 [.mk 2 4 [98] 0 0 1 [],.mk 1 8 [] 1 1 1 []]) (hNs (n1+1)):=dX (T:=36) [_,_] [hNb,hNo] 3 4 2 rfl trivial (fun i h h'=>by
  match i,h,h' with
  | 0,_,_=>exact rT _ _ _ _ _ _ _ _ _
  | 1,_,_=>exact rT _ _ _ _ _ _ _ _ _) hk2
 have hk4:W4.heap[n1+1+1+1]? = some (.cells ([hNs (n1+1),hNa].flatMap NV.cells).toArray 36):=by
  rw[hW4,<-z3];exact heap_alloc_last W3 _
 have ms4:=NodeA.bel (b3.trans (b4.mono zac)) _ _ ms
 have ml:NodeA W4 (fun _=>True) idO hN' (hNl (n1+1+1+1)):=dX (T:=36) [_,_] [hNs (n1+1),hNa] 11 0 2 rfl trivial (fun i h h'=>by
  match i,h,h' with
  | 0,_,_=>exact ms4
  | 1,_,_=>exact rT _ _ _ _ _ _ _ _ _) hk4
 have H8:=zH (H7.out.bel b05)
 have HX8:=zH (NodeA.bel b05 _ _ HX.out)
 have HL8:=zH (NodeA.bel b5 _ _ ml)
 have HB8:=zH (HB7.out.trans (b05.mono HB7.out.size))
 have R7:=zH r7
 have R11:=zH r11
 change Calls _ _ _ (((((v2.alloc (.cells [zI zL xo,zI zL xa,.string xs,zI zL xn,zI zL xd,.bool xf,zI zL xm,zI zL xr,zI zL xy,.slice xq xk xc].toArray 36)).alloc (.cells ([hNb,hNo].flatMap NV.cells).toArray 36)).alloc (.cells (NV.cells (hNs (v2.heap.size+1))).toArray 36)).alloc (.cells ([hNs (v2.heap.size+1),hNa].flatMap NV.cells).toArray 36)).alloc (.cells (NV.cells (hNl (v2.heap.size+1+1+1))).toArray 36)) _
 rw[<-hn1,<-hW1,<-hW2,<-hW3,<-hW4,<-hW5]
 clear hW1 hW2 hW3 hW4 hW5 z1 z2 z3 z4 z5 b1 b2 b3 b4 b5 b15 b05 r7 r11 hk2 ms hk4 ms4 ml H7 HX HB7 al hn1
 refine(EO (l:=hs2) _ (by rfl) by2 zah).mono ?_
 rintro _ v3 ⟨vd,vr,vg,rfl,hV,hb⟩
 obtain⟨rfl,rfl,hg⟩:=hV.2 (by simp)
 obtain⟨g3,c3,rfl,-,-,hg3,hc3⟩:=jJ hg zah
 have H9:=zH (H8.out.bel hb)
 have HX9:=zH (NodeA.bel hb _ _ HX8.out)
 have HL9:=zH (NodeA.bel hb _ _ HL8.out)
 have HB9:=zH (HB8.out.trans (hb.mono HB8.out.size))
 have R7b:=zH (R7.out.bel (by simp) hb)
 have R11b:=zH (R11.out.bel (by simp[NV.cells]) hb)
 have G3:=zH hg3
 clear hV hg hg3 hb H8 HX8 HL8 HB8 R7 R11 hc3
 go_wp2_with fail
 have R79:=R7b
 have R119:=R11b
 have G39:=G3
 clear R7b R11b G3
 have b1:=(Below.refl v3.heap.size v3).alloc (Nat.le_refl _) (.cells #[.slice none 0 0,.slice none 0 0] 26)
 have H10:=zH (H9.out.bel b1)
 have HX10:=zH (NodeA.bel b1 _ _ HX9.out)
 have HL10:=zH (NodeA.bel b1 _ _ HL9.out)
 have HB10:=zH (HB9.out.trans (b1.mono HB9.out.size))
 have R710:=zH (R79.out.bel (by simp) b1)
 have R1110:=zH (R119.out.bel (by simp[NV.cells]) b1)
 have G310:=zH (G39.out.bel (by simp[gV]) b1)
 clear H9 HX9 HL9 HB9 R79 R119 G39
 clear b1
 generalize v3.alloc (.cells #[.slice none 0 0,.slice none 0 0] 26)=u3 at *
 generalize v3.heap.size=m3 at *
 refine(EO (l:=hs3) _ (by rfl) by3 zah).mono ?_
 rintro _ v4 ⟨vd,vr,vg,rfl,hV,hb⟩
 obtain⟨rfl,rfl,hg⟩:=hV.2 (by simp)
 obtain⟨g4,c4,rfl,-,-,hg4,hc4⟩:=jJ hg zah
 have H11:=zH (H10.out.bel hb)
 have HX11:=zH (NodeA.bel hb _ _ HX10.out)
 have HL11:=zH (NodeA.bel hb _ _ HL10.out)
 have HB11:=zH (HB10.out.trans (hb.mono HB10.out.size))
 have R711:=zH (R710.out.bel (by simp) hb)
 have R1111:=zH (R1110.out.bel (by simp[NV.cells]) hb)
 have G311:=zH (G310.out.bel (by simp[gV]) hb)
 have G411:=zH hg4
 clear hV hg hg4 hb
 clear H10 HX10 HL10 HB10 R710 R1110 G310
 go_wp2_with fail
 have b1:=(Below.refl v4.heap.size v4).alloc (Nat.le_refl _) (.cells #[.slice none 0 0,.slice none 0 0] 26)
 have H12:=zH (H11.out.bel b1)
 have HX12:=zH (NodeA.bel b1 _ _ HX11.out)
 have HL12:=zH (NodeA.bel b1 _ _ HL11.out)
 have HB12:=zH (HB11.out.trans (b1.mono HB11.out.size))
 have R712:=zH (R711.out.bel (by simp) b1)
 have R1112:=zH (R1111.out.bel (by simp[NV.cells]) b1)
 have G312:=zH (G311.out.bel (by simp[gV]) b1)
 have G412:=zH (G411.out.bel (by simp[gV]) b1)
 clear H11 HX11 HL11 HB11 R711 R1111 G311 G411
 clear b1
 generalize v4.alloc (.cells #[.slice none 0 0,.slice none 0 0] 26)=u4 at *
 generalize v4.heap.size=m4 at *
 refine(Fp (l:=hs5) _ (by rfl) ex5 zah).mono ?_
 rintro _ v5 ⟨rfl,hb⟩
 have b1:=(Below.refl v5.heap.size v5).alloc (Nat.le_refl _) (.cells #[zI zL 0,zI zL 0,.string ⟨#[]⟩,zI zL 0,zI zL 0,.bool false,zI zL 0,zI zL 0,zI zL 0,.slice none 0 0] 36)
 have b2:=hb.trans (b1.mono hb.size)
 have H13:=zH (H12.out.bel b2)
 have HX13:=zH (NodeA.bel b2 _ _ HX12.out)
 have HL13:=zH (NodeA.bel b2 _ _ HL12.out)
 have HB13:=zH (HB12.out.trans (b2.mono HB12.out.size))
 have R713:=zH (R712.out.bel (by simp) b2)
 have R1113:=zH (R1112.out.bel (by simp[NV.cells]) b2)
 have G313:=zH (G312.out.bel (by simp[gV]) b2)
 have G413:=zH (G412.out.bel (by simp[gV]) b2)
 clear H12 HX12 HL12 HB12 R712 R1112 G312 G412
 clear b1 b2 hb
 have p0:=R713.out 0 _ rfl
 have p1:=R713.out 1 _ rfl
 have p2:=R713.out 2 _ rfl
 have p3:=R713.out 3 _ rfl
 have p4:=R713.out 4 _ rfl
 have p5:=R713.out 5 _ rfl
 have p6:=R713.out 6 _ rfl
 have p7:=R713.out 7 _ rfl
 have p8:=R713.out 8 _ rfl
 have p9:=R713.out 9 _ rfl
 have q0:(v5.alloc (.cells #[zI zL 0,zI zL 0,.string ⟨#[]⟩,zI zL 0,zI zL 0,.bool false,zI zL 0,zI zL 0,zI zL 0,.slice none 0 0] 36)).cell? ⟨n1+1+1+1+1,0,none⟩=some (zI zL 11):=R1113.out 0 _ rfl
 have q1:(v5.alloc (.cells #[zI zL 0,zI zL 0,.string ⟨#[]⟩,zI zL 0,zI zL 0,.bool false,zI zL 0,zI zL 0,zI zL 0,.slice none 0 0] 36)).cell? ⟨n1+1+1+1+1,1,none⟩=some (zI zL 0):=R1113.out 1 _ rfl
 have q2:(v5.alloc (.cells #[zI zL 0,zI zL 0,.string ⟨#[]⟩,zI zL 0,zI zL 0,.bool false,zI zL 0,zI zL 0,zI zL 0,.slice none 0 0] 36)).cell? ⟨n1+1+1+1+1,2,none⟩=some (.string ⟨#[]⟩):=R1113.out 2 _ rfl
 have q3:(v5.alloc (.cells #[zI zL 0,zI zL 0,.string ⟨#[]⟩,zI zL 0,zI zL 0,.bool false,zI zL 0,zI zL 0,zI zL 0,.slice none 0 0] 36)).cell? ⟨n1+1+1+1+1,3,none⟩=some (zI zL 0):=R1113.out 3 _ rfl
 have q4:(v5.alloc (.cells #[zI zL 0,zI zL 0,.string ⟨#[]⟩,zI zL 0,zI zL 0,.bool false,zI zL 0,zI zL 0,zI zL 0,.slice none 0 0] 36)).cell? ⟨n1+1+1+1+1,4,none⟩=some (zI zL 0):=R1113.out 4 _ rfl
 have q5:(v5.alloc (.cells #[zI zL 0,zI zL 0,.string ⟨#[]⟩,zI zL 0,zI zL 0,.bool false,zI zL 0,zI zL 0,zI zL 0,.slice none 0 0] 36)).cell? ⟨n1+1+1+1+1,5,none⟩=some (.bool false):=R1113.out 5 _ rfl
 have q6:(v5.alloc (.cells #[zI zL 0,zI zL 0,.string ⟨#[]⟩,zI zL 0,zI zL 0,.bool false,zI zL 0,zI zL 0,zI zL 0,.slice none 0 0] 36)).cell? ⟨n1+1+1+1+1,6,none⟩=some (zI zL 0):=R1113.out 6 _ rfl
 have q7:(v5.alloc (.cells #[zI zL 0,zI zL 0,.string ⟨#[]⟩,zI zL 0,zI zL 0,.bool false,zI zL 0,zI zL 0,zI zL 0,.slice none 0 0] 36)).cell? ⟨n1+1+1+1+1,7,none⟩=some (zI zL 0):=R1113.out 7 _ rfl
 have q8:(v5.alloc (.cells #[zI zL 0,zI zL 0,.string ⟨#[]⟩,zI zL 0,zI zL 0,.bool false,zI zL 0,zI zL 0,zI zL 0,.slice none 0 0] 36)).cell? ⟨n1+1+1+1+1,8,none⟩=some (zI zL 0):=R1113.out 8 _ rfl
 have q9:(v5.alloc (.cells #[zI zL 0,zI zL 0,.string ⟨#[]⟩,zI zL 0,zI zL 0,.bool false,zI zL 0,zI zL 0,zI zL 0,.slice none 0 0] 36)).cell? ⟨n1+1+1+1+1,9,none⟩=some (.slice (some ⟨n1+1+1+1,0,none⟩) 2 2):=R1113.out 9 _ rfl
 go_wp2_with fail
 change Calls _ _ _ (v5.alloc (.cells #[zI zL 0,zI zL 0,.string ⟨#[]⟩,zI zL 0,zI zL 0,.bool false,zI zL 0,zI zL 0,zI zL 0,.slice none 0 0] 36)) _
 generalize v5.alloc (.cells #[zI zL 0,zI zL 0,.string ⟨#[]⟩,zI zL 0,zI zL 0,.bool false,zI zL 0,zI zL 0,zI zL 0,.slice none 0 0] 36)=u5 at *
 generalize v5.heap.size=m5 at *
 clear p0 q0 p1 q1 p2 q2 p3 q3 p4 q4 p5 q5 p6 q6 p7 q7 p8 q8 p9 q9
 have KS:=jm true (bY hs4) idO _ hN hN' (Nat.le_refl _) zah _ _ _ _ _ HX13.out HL13.out
 rw[eq4] at KS
 refine KS.mono ?_
 rintro _ v6 ⟨rfl,hb⟩
 have H14:=zH (H13.out.bel hb)
 have HX14:=zH (NodeA.bel hb _ _ HX13.out)
 have HL14:=zH (NodeA.bel hb _ _ HL13.out)
 have HB14:=zH (HB13.out.trans (hb.mono HB13.out.size))
 have R714:=zH (R713.out.bel (by simp) hb)
 have R1114:=zH (R1113.out.bel (by simp[NV.cells]) hb)
 have G314:=zH (G313.out.bel (by simp[gV]) hb)
 have G414:=zH (G413.out.bel (by simp[gV]) hb)
 clear H13 HX13 HL13 HB13 R713 R1113 G313 G413
 clear hb KS
 go_wp2_with fail
 have hS:Hid (RowKit.Below v6.heap.size v6 v6.drew):=(Below.refl _ _).drew
 refine wp_region_held (S:=fun w':World=>Hid (RowKit.Below v6.heap.size v6 w')) mixed ?_
 change wpAnyH _ _ _ _ _ _ _ _ v6.drew
 refine tk0 (v:=(.bool true)) zab zab zab (fun _ _ _ h=>h) (Or.inl ⟨zab,?_⟩) hS ?_
 ·intro w' hSw
  go_simp;try with_reducible rfl
 simp only[Act.put,zA,zB,zC]
 refine tk1 (v:=(.bool true)) zab zab zab (fun _ _ _ h=>h) (Or.inl ⟨zab,?_⟩) hS ?_
 ·intro w' hSw
  go_simp;try with_reducible rfl
 simp only[Act.put,zA,zB,zC]
 refine tk2 (v:= .pointer (some ⟨n0,0,none⟩)) zab zab zab (fun _ _ _ h=>h) (Or.inl ⟨zab,?_⟩) hS ?_
 ·intro w' hSw
  go_simp;try with_reducible rfl
 simp only[Act.put,zA,zB,zC]
 refine tk3 (v:= .slice (some ⟨g1,0,none⟩) 1 c1) zab zab zab (fun _ _ _ h=>h) (Or.inl ⟨zab,?_⟩) hS ?_
 ·intro w' hSw
  have hc:=(H14.out.c.bel hSw.out).c0
  go_simp;try with_reducible rfl
 simp only[Act.put,zA,zB,zC]
 refine tk4 (v:= .pointer (some ⟨g1,0,none⟩)) zab zab zab (fun _ _ _ h=>h) (Or.inl ⟨zab,?_⟩) hS ?_
 ·intro w' hSw
  go_simp;try with_reducible rfl
 simp only[Act.put,zA,zB,zC]
 refine tk5 (v:= .agg (dV (bY hs1) hD).toArray) zab zab zab (fun _ _ _ h=>h) (Or.inl ⟨zab,?_⟩) hS ?_
 ·intro w' hSw
  exact aY rfl rfl (aS _ 8 zab zab _ g1 _ rfl (H14.out.d1.bel (by simp[dV]) hSw.out))
 simp only[Act.put,zA,zB,zC]
 refine tk6 (v:= .agg [.string (bs [114,111,111,109,115]),.bool false,zI zL 0,zI zL 0,zI zL 0,zI zL 1,zI zL 5,zI zL 0].toArray) zab zab zab (fun _ _ _ h=>h) (Or.inl ⟨zab,?_⟩) hS ?_
 ·intro w' hSw
  exact aY rfl rfl (aS _ 8 zab zab _ _ _ rfl (H14.out.db.bel (by simp) hSw.out))
 simp only[Act.put,zA,zB,zC]
 refine wpAnyH_ready (rs:=[7]) zab (by simp) (st7 (fun K hK=>?_) AllReadyH.nil)
 refine(if_pos zab).mpr ?_
 refine gm rfl (by rfl) ?_
 refine(FH _).mono ?_
 rintro _ w7 ⟨rfl,hb⟩
 have hSw7:Hid (RowKit.Below v6.heap.size v6 w7):=hS.out.trans (hb.mono hS.out.size)
 clear hb
 replace hS:=hSw7
 refine hK.out _ _ ?_ (fun hHeld=>?_)
 ·exact hS
 clear hK K
 try simp only[Act.put,zA,zB,zC]
 refine tk8 (v:=(.bool true)) zab zab zab (fun _ _ _ h=>h) (Or.inl ⟨zab,?_⟩) hS ?_
 ·intro w' hSw
  go_simp;try with_reducible rfl
 simp only[Act.put,zA,zB,zC]
 refine tk9 (v:=(.bool true)) zab zab zab (fun _ _ _ h=>h) (Or.inl ⟨zab,?_⟩) hS ?_
 ·intro w' hSw
  go_simp;try with_reducible rfl
 simp only[Act.put,zA,zB,zC]
 refine Cs (v:= .pointer (some ⟨n0,1,none⟩)) zab zab zab (fun _ _ _ h=>h) (Or.inl ⟨zab,?_⟩) hS ?_
 ·intro w' hSw
  go_simp;try with_reducible rfl
 simp only[Act.put,zA,zB,zC]
 refine CS (v:= .slice (some ⟨g2,0,none⟩) 1 c2) zab zab zab (fun _ _ _ h=>h) (Or.inl ⟨zab,?_⟩) hS ?_
 ·intro w' hSw
  have hc:=(H14.out.c.bel hSw.out).c1
  go_simp;try with_reducible rfl
 simp only[Act.put,zA,zB,zC]
 refine Fz (v:= .pointer (some ⟨g2,0,none⟩)) zab zab zab (fun _ _ _ h=>h) (Or.inl ⟨zab,?_⟩) hS ?_
 ·intro w' hSw
  go_simp;try with_reducible rfl
 simp only[Act.put,zA,zB,zC]
 refine tk13 (v:= .agg (rV (bY hs1) hR x y).toArray) zab zab zab (fun _ _ _ h=>h) (Or.inl ⟨zab,?_⟩) hS ?_
 ·intro w' hSw
  exact aY rfl rfl (ku _ g2 _ rfl (H14.out.r1.bel zda hSw.out))
 simp only[Act.put,zA,zB,zC]
 obtain⟨x',hx'⟩:∃z,z=(⟨17,idO 27,bs [],0,0,uF 1,uM 1,uA 1,uD 1,none,0,0⟩:NV):=⟨_,rfl⟩
 obtain⟨y',hy'⟩:∃z,z=(⟨5,61,⟨#[]⟩,0,0,false,0,0,0,some ⟨n0+1+1+1+1,0,none⟩,2,2⟩:NV):=⟨_,rfl⟩
 rw[<-hx',<-hy'] at H14
 refine tk14 (v:= .agg (rV idO hR' x' y').toArray) zab zab zab (fun _ _ _ h=>h) (Or.inl ⟨zab,?_⟩) hS ?_
 ·intro w' hSw
  exact aY rfl rfl (ku _ _ _ rfl (H14.out.rb.bel zda hSw.out))
 simp only[Act.put,zA,zB,zC]
 refine wpAnyH_ready (rs:=[15]) zab (by simp) (st15 (fun K hK=>?_) AllReadyH.nil)
 refine(if_pos zab).mpr ?_
 refine gm rfl (by rfl) ?_
 refine(jf true (bY hs1) idO hR hR' (fun _=>True) (fun _=>True) x y x' y' _ (H14.out.bel hS.out).nx (H14.out.bel hS.out).ny (H14.out.bel hS.out).mx (H14.out.bel hS.out).my zah zah eq1).mono ?_
 rintro _ w15 ⟨rfl,hb⟩
 have hSw15:Hid (RowKit.Below v6.heap.size v6 w15):=hS.out.trans (hb.mono hS.out.size)
 clear hb
 replace hS:=hSw15
 refine hK.out _ _ ?_ (fun hHeld=>?_)
 ·exact hS
 clear hK K
 try simp only[Act.put,zA,zB,zC]
 refine tk16 (v:=(.bool true)) zab zab zab (fun _ _ _ h=>h) (Or.inl ⟨zab,?_⟩) hS ?_
 ·intro w' hSw
  go_simp;try with_reducible rfl
 simp only[Act.put,zA,zB,zC]
 refine tk17 (v:=(.bool true)) zab zab zab (fun _ _ _ h=>h) (Or.inl ⟨zab,?_⟩) hS ?_
 ·intro w' hSw
  go_simp;try with_reducible rfl
 simp only[Act.put,zA,zB,zC]
 refine tk18 (v:= .slice (some ⟨g3,0,none⟩) 1 c3) zab zab zab (fun _ _ _ h=>h) (Or.inl ⟨zab,?_⟩) hS ?_
 ·intro w' hSw
  go_simp;try with_reducible rfl
 simp only[Act.put,zA,zB,zC]
 refine tk19 (v:= .agg #[zI zL 12,zI zL 3]) zab zab zab (fun _ _ _ h=>h) (Or.inl ⟨zab,?_⟩) hS ?_
 ·intro w' hSw
  go_simp;try with_reducible rfl
 simp only[Act.put,zA,zB,zC]
 refine wpAnyH_ready (rs:=[20]) zab (by simp) (st20 (fun K hK=>?_) AllReadyH.nil)
 go_simp
 have ba:=(Below.refl w15.heap.size w15).alloc (Nat.le_refl _) (.cells #[zI zL 12,zI zL 3] 53)
 have A21:=zH (At2.new w15 (zI zL 12) (zI zL 3) 53)
 have hS2:Hid (RowKit.Below v6.heap.size v6 (w15.alloc (.cells #[zI zL 12,zI zL 3] 53))):=hS.out.trans (ba.mono hS.out.size)
 clear ba
 replace hS:=hS2
 refine hK.out _ _ ?_ (fun hHeld=>?_)
 ·exact hS
 clear hK K
 try simp only[Act.put,zA,zB,zC]
 have RG21:=G314.out.bel (by simp[gV]) hS.out
 refine wpAnyH_ready (rs:=[21]) zab (by simp) (st21 (fun K hK=>?_) AllReadyH.nil)
 refine(if_pos zab).mpr ?_
 refine gm rfl (by rfl) ?_
 refine(dF 1 (fun j=>if j=0 then 12 else 3) g3 w15.heap.size c3 1 _ _ _ (fun _=>rfl) (fun _=>rfl) (fun j hj=>by
  match j,hj with
  | 0,_=>exact(RG21 0 _ rfl).trans (by rw[of2];rfl)
  | 1,_=>exact RG21 1 _ rfl) (fun j hj=>by
  match j,hj with
  | 0,_=>exact A21.out.c0
  | 1,_=>exact A21.out.c1) zah).mono ?_
 rintro _ w21 ⟨rfl,hb⟩
 have hSw21:Hid (RowKit.Below v6.heap.size v6 w21):=hS.out.trans (hb.mono hS.out.size)
 clear hb
 replace hS:=hSw21
 refine hK.out _ _ ?_ (fun hHeld=>?_)
 ·exact hS
 clear hK K
 try simp only[Act.put,zA,zB,zC]
 refine tk22 (v:=(.bool true)) zab zab zab (fun _ _ _ h=>h) (Or.inl ⟨zab,?_⟩) hS ?_
 ·intro w' hSw
  go_simp;try with_reducible rfl
 simp only[Act.put,zA,zB,zC]
 refine tk23 (v:=(.bool true)) zab zab zab (fun _ _ _ h=>h) (Or.inl ⟨zab,?_⟩) hS ?_
 ·intro w' hSw
  go_simp;try with_reducible rfl
 simp only[Act.put,zA,zB,zC]
 refine tk24 (v:= .slice (some ⟨g4,0,none⟩) 1 c4) zab zab zab (fun _ _ _ h=>h) (Or.inl ⟨zab,?_⟩) hS ?_
 ·intro w' hSw
  go_simp;try with_reducible rfl
 simp only[Act.put,zA,zB,zC]
 refine tk25 (v:= .agg #[zI zL 15,zI zL 10]) zab zab zab (fun _ _ _ h=>h) (Or.inl ⟨zab,?_⟩) hS ?_
 ·intro w' hSw
  go_simp;try with_reducible rfl
 simp only[Act.put,zA,zB,zC]
 refine wpAnyH_ready (rs:=[26]) zab (by simp) (st26 (fun K hK=>?_) AllReadyH.nil)
 go_simp
 have ba:=(Below.refl w21.heap.size w21).alloc (Nat.le_refl _) (.cells #[zI zL 15,zI zL 10] 53)
 have A27:=zH (At2.new w21 (zI zL 15) (zI zL 10) 53)
 have hS2:Hid (RowKit.Below v6.heap.size v6 (w21.alloc (.cells #[zI zL 15,zI zL 10] 53))):=hS.out.trans (ba.mono hS.out.size)
 clear ba
 replace hS:=hS2
 refine hK.out _ _ ?_ (fun hHeld=>?_)
 ·exact hS
 clear hK K
 try simp only[Act.put,zA,zB,zC]
 have RG27:=G414.out.bel (by simp[gV]) hS.out
 refine wpAnyH_ready (rs:=[27]) zab (by simp) (st27 (fun K hK=>?_) AllReadyH.nil)
 refine(if_pos zab).mpr ?_
 refine gm rfl (by rfl) ?_
 refine(dF 1 (fun j=>if j=0 then 15 else 10) g4 w21.heap.size c4 1 _ _ _ (fun _=>rfl) (fun _=>rfl) (fun j hj=>by
  match j,hj with
  | 0,_=>exact(RG27 0 _ rfl).trans (by rw[of3];rfl)
  | 1,_=>exact RG27 1 _ rfl) (fun j hj=>by
  match j,hj with
  | 0,_=>exact A27.out.c0
  | 1,_=>exact A27.out.c1) zah).mono ?_
 rintro _ w27 ⟨rfl,hb⟩
 have hSw27:Hid (RowKit.Below v6.heap.size v6 w27):=hS.out.trans (hb.mono hS.out.size)
 clear hb
 replace hS:=hSw27
 refine hK.out _ _ ?_ (fun hHeld=>?_)
 ·exact hS
 clear hK K
 try simp only[Act.put,zA,zB,zC]
 refine tk28 (v:=(.bool true)) zab zab zab (fun _ _ _ h=>h) (Or.inl ⟨zab,?_⟩) hS ?_
 ·intro w' hSw
  go_simp;try with_reducible rfl
 simp only[Act.put,zA,zB,zC]
 refine tk29 (v:=(.bool true)) zab zab zab (fun _ _ _ h=>h) (Or.inl ⟨zab,?_⟩) hS ?_
 ·intro w' hSw
  go_simp;try with_reducible rfl
 simp only[Act.put,List.setIfInBounds_toArray,List.set_cons_zero]
 refine wpAnyH_done zab ?_ _
 have HBf:=zH (HB14.out.trans (hS.out.mono HB14.out.size))
 go_wp2_with fail
 go_ret
 exact⟨rfl,HBf.out⟩
end Go.Proofs.YtnjfolljbfkojaaGreatDoor
