import Derived.Test.YtnjfolljbfkojaaGreatDoorMBA
import Derived.Test.YtnjfolljbfkojaaGreatDoorMAR
set_option maxRecDepth 100000
set_option maxHeartbeats 20000000
namespace Go.Proofs.YtnjfolljbfkojaaGreatDoor
open Go.Value renaming int→zI
open Go.IntKind renaming i64→zL
open Go.Lib renaming hid→zH
open Go.RowKit Lx Pa
section
variable {b cap qb En mb:Nat} {p:Option Addr} {ts:List Tok}
theorem yt {k:Nat}(op:Int)(pl:Nat)(w:World)(h:Rd w b p cap qb ts En mb k)(HX:∀(k':Nat) (w:World),Rd w b p cap qb ts En mb k'->ts.length-k'<ts.length-k->Calls Tryz.prog 48 #[.pointer (some ⟨b,0,none⟩)] w fun e w'=>ak w b p cap qb ts En mb (vX w.heap.size (ag ts En)) (rd M0 .ex (ts.drop k')) e w') :
  Calls Tryz.prog 145 #[.pointer (some ⟨b,0,none⟩),zI zL (ag ts En pl),opV 6 op false] w fun e w'=>ak w b p cap qb ts En mb (vX w.heap.size (ag ts En)) ((need sLp (ts.drop k)).bind fun _ r1=>(rd M0 .ex r1).bind fun a r2=>(need sCm r2).bind fun _ r3=>(rd M0 .ex r3).bind fun b r4=>(need sRp r4).bind fun _ r5=> .ok (.mk op pl [] 0 0 1 [a,b]) r5) e w':=by
 have hbl:b<w.heap.size:=h.lt
 have KX:=zH HX
 have KGL:=zH (Af (ts:=ts))
 have KNL:=zH (qZ (ts:=ts))
 clear HX
 obtain⟨at0,hat⟩:∃z,z=ag ts En pl:=⟨_,rfl⟩
 rw[<-hat]
 have HAT:=zH hat
 clear hat
 generalize hO:((need sLp (ts.drop k)).bind fun _ r1=>(rd M0 .ex r1).bind fun a r2=>(need sCm r2).bind fun _ r3=>(rd M0 .ex r3).bind fun b r4=>(need sRp r4).bind fun _ r5=> .ok (.mk op pl [] 0 0 1 [a,b]) r5:Out Tree)=O
 have HO:=zH hO
 clear hO
 have S0:=zH (((Sx.start h).alloc (.cells #[zI zL 6,zI zL op,.bool false] 108)).alloc (.cells #[zI zL 0,zI zL 0,.string ⟨#[]⟩,zI zL 0,zI zL 0,.bool false,zI zL 0,zI zL 0,zI zL 0,.slice none 0 0] 36))
 have P0:=zH ((B3.new w (zI zL 6) (zI zL op) (.bool false) 108).bel ((Below.refl _ _).alloc (Nat.le_refl _) (.cells #[zI zL 0,zI zL 0,.string ⟨#[]⟩,zI zL 0,zI zL 0,.bool false,zI zL 0,zI zL 0,zI zL 0,.slice none 0 0] 36)))
 have R0:=zH (B10.new (w.alloc (.cells #[zI zL 6,zI zL op,.bool false] 108)) (zI zL 0) (zI zL 0) (.string ⟨#[]⟩) (zI zL 0) (zI zL 0) (.bool false) (zI zL 0) (zI zL 0) (zI zL 0) (.slice none 0 0) 36)
 rw[World.size_alloc] at R0
 have NB:w.heap.size+1≠b:=zac
 have NBP:w.heap.size≠b:=zac
 have B0:((w.alloc (.cells #[zI zL 6,zI zL op,.bool false] 108)).alloc (.cells #[zI zL 0,zI zL 0,.string ⟨#[]⟩,zI zL 0,zI zL 0,.bool false,zI zL 0,zI zL 0,zI zL 0,.slice none 0 0] 36)).heap.size=w.heap.size+2:=by simp
 clear h
 unfold opV
 go_enter Tryz.func145,Tryz.ntmps145
 go_wp2_with fail
 change Calls _ _ _ ((w.alloc (.cells #[zI zL 6,zI zL op,.bool false] 108)).alloc (.cells #[zI zL 0,zI zL 0,.string ⟨#[]⟩,zI zL 0,zI zL 0,.bool false,zI zL 0,zI zL 0,zI zL 0,.slice none 0 0] 36)) _
 generalize (w.alloc (.cells #[zI zL 6,zI zL op,.bool false] 108)).alloc (.cells #[zI zL 0,zI zL 0,.string ⟨#[]⟩,zI zL 0,zI zL 0,.bool false,zI zL 0,zI zL 0,zI zL 0,.slice none 0 0] 36)=V at *
 have KS:=zH (dm sLp zah _ S0.out.rd)
 generalize ho:need sLp (ts.drop k)=oo at KS HO
 refine KS.out.mono ?_
 cases oo with
 | er E q m =>
  rintro _ v1 ⟨k',rfl,hkp,hrd,hm⟩
  exact Az
 | ok u r =>
  rintro _ v1 ⟨_,k1,rfl,rfl,hkp,hrd,rfl⟩
  have S1:=zH (S0.out.call hkp hrd)
  have R1:=zH (R0.out.call hkp NB)
  have P1:=zH (P0.out.call hkp NBP)
  have hsz_v1:=hkp.size
  have HO2:=HO.out
  rw[bind_ok] at HO2
  replace HO:=zH HO2
  clear HO2 hkp hrd KS
  have G0:=KNL.out _ k k1 _ ho
  clear S0 R0 P0 ho
  go_wp2_with fail
  have KS:=zH (KX.out k1 v1 S1.out.rd zac)
  generalize ho:rd M0 .ex (ts.drop k1)=oo at KS HO
  refine KS.out.mono ?_
  cases oo with
  | er E q m =>
   rintro _ v3 ⟨k',rfl,hkp,hrd,hm⟩
   have SE:=zH (S1.out.call hkp hrd)
   go_wp2_with fail
   exact aa rfl (ak.er HO.out.symm rfl hm SE.out)
  | ok a1 r =>
   rintro _ v3 ⟨_,k2,rfl,⟨⟨xo,xa,xs,xn,xd,xf,xm,xr,xy,xq,xk,xc⟩,rfl,hx⟩,hkp,hrd,rfl⟩
   have S3:=zH (S1.out.call hkp hrd)
   have R3:=zH (R1.out.call hkp NB)
   have P3:=zH (P1.out.call hkp NBP)
   have N3:=zH (NodeA.keep (A':=fun j=>w.heap.size+2<=j) (Nat.le_refl _) (fun _ _ _=>rfl) (fun j (hj:v1.heap.size<=j) _=> zch) _ _ hx)
   have hsz_v3:=hkp.size
   have HO2:=HO.out
   rw[bind_ok] at HO2
   replace HO:=zH HO2
   clear HO2 hkp hrd KS
   have G1:=KGL.out k1 k2 _ ho
   clear hx S1 R1 P1 ho
   unfold nv
   have bl:=(Below.refl v3.heap.size v3).alloc (Nat.le_refl _) (.cells #[zI zL xo,zI zL xa,.string xs,zI zL xn,zI zL xd,.bool xf,zI zL xm,zI zL xr,zI zL xy,.slice xq xk xc] 36)
   have S4:=zH (S3.out.bel bl)
   have R4:=zH (R3.out.bel bl)
   have P4:=zH (P3.out.bel bl)
   have N4:=zH (NodeA.bel bl _ _ N3.out)
   have X4:=zH (B10.new v3 (zI zL xo) (zI zL xa) (.string xs) (zI zL xn) (zI zL xd) (.bool xf) (zI zL xm) (zI zL xr) (zI zL xy) (.slice xq xk xc) 36)
   have hv4:(v3.alloc (.cells #[zI zL xo,zI zL xa,.string xs,zI zL xn,zI zL xd,.bool xf,zI zL xm,zI zL xr,zI zL xy,.slice xq xk xc] 36)).heap.size=v3.heap.size+1:=by simp
   clear bl S3 R3 P3 N3
   go_wp2_with fail
   generalize v3.alloc (.cells #[zI zL xo,zI zL xa,.string xs,zI zL xn,zI zL xd,.bool xf,zI zL xm,zI zL xr,zI zL xy,.slice xq xk xc] 36)=V4 at *
   generalize v3.heap.size=xb at *
   have NBX:xb≠b:=zac
   have KS:=zH (dm sCm zah _ S4.out.rd)
   generalize ho:need sCm (ts.drop k2)=oo at KS HO
   refine KS.out.mono ?_
   cases oo with
   | er E q m =>
    rintro _ v5 ⟨k',rfl,hkp,hrd,hm⟩
    exact Cb
   | ok u r =>
    rintro _ v5 ⟨_,k3,rfl,rfl,hkp,hrd,rfl⟩
    have S5:=zH (S4.out.call hkp hrd)
    have R5:=zH (R4.out.call hkp NB)
    have P5:=zH (P4.out.call hkp NBP)
    have X5:=zH (X4.out.call hkp NBX)
    have N5:=zH (NodeA.keep hkp.size (fun j (hj:w.heap.size+2<=j) hj2=>hkp.block j hj2 zac) (fun j hj _=>hj) _ _ N4.out)
    have hsz_v5:=hkp.size
    have HO2:=HO.out
    rw[bind_ok] at HO2
    replace HO:=zH HO2
    clear HO2 hkp hrd KS
    have G2:=KNL.out _ k2 k3 _ ho
    clear S4 R4 P4 X4 N4 ho
    go_wp2_with fail
    have KS:=zH (KX.out k3 v5 S5.out.rd zac)
    generalize rd M0 .ex (ts.drop k3)=oo at KS HO
    refine KS.out.mono ?_
    cases oo with
    | er E q m =>
     rintro _ v6 ⟨k',rfl,hkp,hrd,hm⟩
     have SE:=zH (S5.out.call hkp hrd)
     go_wp2_with fail
     exact aa rfl (ak.er HO.out.symm rfl hm SE.out)
    | ok a2 r =>
     rintro _ v6 ⟨_,k4,rfl,⟨⟨yo,ya,ys,yn,yd,yf,ym,yr,yy,yq,yk,yc⟩,rfl,hx⟩,hkp,hrd,rfl⟩
     have S6:=zH (S5.out.call hkp hrd)
     have R6:=zH (R5.out.call hkp NB)
     have P6:=zH (P5.out.call hkp NBP)
     have X6:=zH (X5.out.call hkp NBX)
     have N6:=zH (NodeA.keep hkp.size (fun j (hj:w.heap.size+2<=j) hj2=>hkp.block j hj2 zac) (fun j hj _=>hj) _ _ N5.out)
     have M6:=zH (NodeA.keep (A':=fun j=>w.heap.size+2<=j) (Nat.le_refl _) (fun _ _ _=>rfl) (fun j (hj:v5.heap.size<=j) _=> zch) _ _ hx)
     have hsz_v6:=hkp.size
     have HO2:=HO.out
     rw[bind_ok] at HO2
     replace HO:=zH HO2
     clear HO2 hkp hrd KS
     clear hx S5 R5 P5 X5 N5
     unfold nv
     have bl:=(Below.refl v6.heap.size v6).alloc (Nat.le_refl _) (.cells #[zI zL yo,zI zL ya,.string ys,zI zL yn,zI zL yd,.bool yf,zI zL ym,zI zL yr,zI zL yy,.slice yq yk yc] 36)
     have S6b:=zH (S6.out.bel bl)
     have R6b:=zH (R6.out.bel bl)
     have P6b:=zH (P6.out.bel bl)
     have X6b:=zH (X6.out.bel bl)
     have N6b:=zH (NodeA.bel bl _ _ N6.out)
     have M6b:=zH (NodeA.bel bl _ _ M6.out)
     have Y6b:=zH (B10.new v6 (zI zL yo) (zI zL ya) (.string ys) (zI zL yn) (zI zL yd) (.bool yf) (zI zL ym) (zI zL yr) (zI zL yy) (.slice yq yk yc) 36)
     have hv6:(v6.alloc (.cells #[zI zL yo,zI zL ya,.string ys,zI zL yn,zI zL yd,.bool yf,zI zL ym,zI zL yr,zI zL yy,.slice yq yk yc] 36)).heap.size=v6.heap.size+1:=by simp
     clear bl S6 R6 P6 X6 N6 M6
     go_wp2_with fail
     generalize v6.alloc (.cells #[zI zL yo,zI zL ya,.string ys,zI zL yn,zI zL yd,.bool yf,zI zL ym,zI zL yr,zI zL yy,.slice yq yk yc] 36)=V6 at *
     generalize v6.heap.size=yb at *
     have NBY:yb≠b:=zac
     have KS:=zH (dm sRp zah _ S6b.out.rd)
     generalize need sRp (ts.drop k4)=oo at KS HO
     refine KS.out.mono ?_
     cases oo with
     | er E q m =>
      rintro _ v7 ⟨k',rfl,hkp,hrd,hm⟩
      have SE:=zH (S6b.out.call hkp hrd)
      go_wp2_with fail
      exact aa rfl (ak.er HO.out.symm rfl hm SE.out)
     | ok u r =>
      rintro _ v7 ⟨_,k5,rfl,rfl,hkp,hrd,rfl⟩
      have S7:=zH (S6b.out.call hkp hrd)
      have R7:=zH (R6b.out.call hkp NB)
      have P7:=zH (P6b.out.call hkp NBP)
      have X7:=zH (X6b.out.call hkp NBX)
      have Y7:=zH (Y6b.out.call hkp NBY)
      have N7:=zH (NodeA.keep hkp.size (fun j (hj:w.heap.size+2<=j) hj2=>hkp.block j hj2 zac) (fun j hj _=>hj) _ _ N6b.out)
      have M7:=zH (NodeA.keep hkp.size (fun j (hj:w.heap.size+2<=j) hj2=>hkp.block j hj2 zac) (fun j hj _=>hj) _ _ M6b.out)
      have hsz_v7:=hkp.size
      have HO2:=HO.out
      rw[bind_ok] at HO2
      replace HO:=zH HO2
      clear HO2 hkp hrd KS
      clear S6b R6b P6b X6b Y6b N6b M6b
      obtain⟨x0,x1,x2,x3,x4,x5,x6,x7,x8,x9,-,-,-,-,-,-,-,-,-,-⟩:=X7.out
      obtain⟨y0,y1,y2,y3,y4,y5,y6,y7,y8,y9,-,-,-,-,-,-,-,-,-,-⟩:=Y7.out
      obtain⟨p0,p1,p2,-,-,-⟩:=P7.out
      have KN:=zH (lM (fun j=>w.heap.size+2<=j) (ag ts En) 6 op false pl a1 a2 ⟨xo,xa,xs,xn,xd,xf,xm,xr,xy,xq,xk,xc⟩ ⟨yo,ya,ys,yn,yd,yf,ym,yr,yy,yq,yk,yc⟩ v7 N7.out M7.out (fun j hj=> zch))
      rw[<-HAT.out] at KN
      unfold opV nv at KN
      go_wp2_with fail
      refine KN.out.mono ?_
      rintro _ v8 ⟨⟨zo,za,zs,zn,zd,zf,zm,zr,zy,zq,zk,zc⟩,rfl,hz,hb⟩
      have S8:=zH (S7.out.bel hb)
      have R8:=zH (R7.out.bel hb)
      have NZ:=zH hz
      clear hb hz KN S7 R7 P7 X7 Y7 N7 M7 x0 x1 x2 x3 x4 x5 x6 x7 x8 x9 y0 y1 y2 y3 y4 y5 y6 y7 y8 y9 p0 p1 p2
      obtain⟨r0,r1,r2,r3,r4,r5,r6,r7,r8,r9,q0,q1,q2,q3,q4,q5,q6,q7,q8,q9⟩:=R8.out
      go_wp2_with fail
      refine(?_:∀F:World,B10 F (w.heap.size+1) (zI zL zo) (zI zL za) (.string zs) (zI zL zn) (zI zL zd) (.bool zf) (zI zL zm) (zI zL zr) (zI zL zy) (.slice zq zk zc)->Sx w F b p cap qb ts En mb k5->Kfr (w.heap.size+2) v8 F->bodyPost _ _ _ _ _ F) _ (R8.out.put _ _ _ _ _ _ _ _ _ _) ((((((((((S8.out.other zac 0 _).other zac 1 _).other zac 2 _).other zac 3 _).other zac 4 _).other zac 5 _).other zac 6 _).other zac 7 _).other zac 8 _).other zac 9 _) (((((((((((Kfr.refl (w.heap.size+2) _).set zac 0 none _).set zac 1 none _).set zac 2 none _).set zac 3 none _).set zac 4 none _).set zac 5 none _).set zac 6 none _).set zac 7 none _).set zac 8 none _).set zac 9 none _)
      intro F hF hS hK
      obtain⟨y0,y1,y2,y3,y4,y5,y6,y7,y8,y9,-,-,-,-,-,-,-,-,-,-⟩:=hF
      exact bodyPost_ret (v:= .agg #[zI zL zo,zI zL za,.string zs,zI zL zn,zI zL zd,.bool zf,zI zL zm,zI zL zr,zI zL zy,.slice zq zk zc]) (by simp[results,Tryz.results145,go_sem,y0,y1,y2,y3,y4,y5,y6,y7,y8,y9]) rfl (ak.ok HO.out.symm ⟨⟨zo,za,zs,zn,zd,zf,zm,zr,zy,zq,zk,zc⟩,rfl,ah.keep hK zac _ _ NZ.out⟩ hS)
theorem xG {k:Nat}(w:World)(h:Rd w b p cap qb ts En mb k)(h2:(pk ts En k).k≠2)(hp:isW sLp (ts.drop k)=false)(ht:isW bB (ts.drop k)=false)(ho:opAt 6 (pk ts En k).t=none) :
  Calls Tryz.prog 138 #[.pointer (some ⟨b,0,none⟩)] w fun e w'=>ak w b p cap qb ts En mb (vX w.heap.size (ag ts En)) ((nameO (ts.drop k)).bind fun nm r=> .ok (.mk 2 (ts.length-k) nm 0 0 1 []) r) e w':=by
 have hbl:b<w.heap.size:=h.lt
 have e1:((pk ts En k).k==2)=false:=zcw
 have KB:=zH (fun w h=>aA (b:=b) (cap:=cap) (qb:=qb) (En:=En) (mb:=mb) (k:=k) (p:=p) (ts:=ts) sLp zah w h)
 rw[hp,if_neg (by simp)] at KB
 have KT:=zH (fun w h=>aA (b:=b) (cap:=cap) (qb:=qb) (En:=En) (mb:=mb) (k:=k) (p:=p) (ts:=ts) bB zah w h)
 rw[ht,if_neg (by simp)] at KT
 have KO:=zH (fun w h=>oO (b:=b) (cap:=cap) (qb:=qb) (En:=En) (mb:=mb) (k:=k) (p:=p) (ts:=ts) 6 w h zah ho)
 have KM:=zH (fun w h=>jo (b:=b) (cap:=cap) (qb:=qb) (En:=En) (mb:=mb) (k:=k) (p:=p) (ts:=ts) w h)
 clear hp h2 ht ho
 generalize hO:((nameO (ts.drop k)).bind fun nm r=> .ok (.mk 2 (ts.length-k) nm 0 0 1 []) r:Out Tree)=O
 have HO:=zH hO
 clear hO
 have KP:=zH (fun w h=>aC (b:=b) (cap:=cap) (qb:=qb) (En:=En) (mb:=mb) (k:=k) (p:=p) (ts:=ts) w h)
 have HAO:Hid ((pk ts En k).a=ag ts En (ts.length-k)):=bF h.kl
 obtain⟨at0,hat⟩:∃z,z=ag ts En (ts.length-k):=⟨_,rfl⟩
 rw[<-hat] at HAO
 have HAT:=zH hat
 clear hat
 have S0:=zH ((Sx.start h).alloc (.cells #[zI zL 0,zI zL 0,.string ⟨#[]⟩,zI zL 0,zI zL 0,.bool false,zI zL 0,zI zL 0,zI zL 0,.slice none 0 0] 36))
 have R0:=zH (B10.new w (zI zL 0) (zI zL 0) (.string ⟨#[]⟩) (zI zL 0) (zI zL 0) (.bool false) (zI zL 0) (zI zL 0) (zI zL 0) (.slice none 0 0) 36)
 have NB:w.heap.size≠b:=zbd
 have B0:(w.alloc (.cells #[zI zL 0,zI zL 0,.string ⟨#[]⟩,zI zL 0,zI zL 0,.bool false,zI zL 0,zI zL 0,zI zL 0,.slice none 0 0] 36)).heap.size=w.heap.size+1:=by simp
 clear h
 generalize pk ts En k=t at *
 obtain⟨tk,ta,tt,tn,td⟩:=t
 unfold fI at KP
 simp only at e1 HAO
 obtain rfl:ta=at0:=HAO.out
 clear HAO
 go_enter Tryz.func138,Tryz.ntmps138
 go_wp2_with fail
 change Calls _ _ _ (w.alloc (.cells #[zI zL 0,zI zL 0,.string ⟨#[]⟩,zI zL 0,zI zL 0,.bool false,zI zL 0,zI zL 0,zI zL 0,.slice none 0 0] 36)) _
 generalize w.alloc (.cells #[zI zL 0,zI zL 0,.string ⟨#[]⟩,zI zL 0,zI zL 0,.bool false,zI zL 0,zI zL 0,zI zL 0,.slice none 0 0] 36)=V at *
 refine(KP.out _ S0.out.rd).mono ?_
 rintro _ v ⟨rfl,hb⟩
 have S1:=zH ((S0.out.bel hb).alloc (.cells #[zI zL tk,zI zL ta,.string (bs tt),zI zL tn,zI zL td] 86))
 have R1:=zH ((R0.out.bel hb).bel ((Below.refl _ _).alloc (Nat.le_refl _) (.cells #[zI zL tk,zI zL ta,.string (bs tt),zI zL tn,zI zL td] 86)))
 have X1:=zH (B5.new v (zI zL tk) (zI zL ta) (.string (bs tt)) (zI zL tn) (zI zL td) 86)
 have hv:=hb.size
 have NB1:v.heap.size≠b:=zam
 have hv1:(v.alloc (.cells #[zI zL tk,zI zL ta,.string (bs tt),zI zL tn,zI zL td] 86)).heap.size=v.heap.size+1:=by simp
 clear hb S0 R0 KP
 obtain⟨x0,x1,x2,x3,x4,-,-,-,-,-⟩:=X1.out
 go_wp2_with fail
 clear x0 x1 x2 x3 x4
 change Calls _ _ _ (v.alloc (.cells #[zI zL tk,zI zL ta,.string (bs tt),zI zL tn,zI zL td] 86)) _
 generalize v.alloc (.cells #[zI zL tk,zI zL ta,.string (bs tt),zI zL tn,zI zL td] 86)=V1 at *
 refine(KB.out _ S1.out.rd).mono ?_
 rintro _ v2 ⟨rfl,hkp,hrd⟩
 have S2:=zH (S1.out.call hkp hrd)
 have R2:=zH (R1.out.call hkp NB)
 have X2:=zH (X1.out.call hkp NB1)
 have hsz_v2:=hkp.size
 clear hkp hrd
 clear S1 R1 X1 KB
 go_wp2_with fail
 refine(KT.out _ S2.out.rd).mono ?_
 rintro _ v3 ⟨rfl,hkp,hrd⟩
 have S3:=zH (S2.out.call hkp hrd)
 have R3:=zH (R2.out.call hkp NB)
 have X3:=zH (X2.out.call hkp NB1)
 have hsz_v3:=hkp.size
 clear hkp hrd
 clear S2 R2 X2 KT
 go_wp2_with fail
 refine(KO.out _ S3.out.rd).mono ?_
 rintro _ v4 ⟨rfl,hkp,hrd⟩
 have S4:=zH (S3.out.call hkp hrd)
 have R4:=zH (R3.out.call hkp NB)
 have X4:=zH (X3.out.call hkp NB1)
 have hsz_v4:=hkp.size
 clear hkp hrd
 clear S3 R3 X3 KO
 have bl:=(Below.refl v4.heap.size v4).alloc (Nat.le_refl _) (.cells #[zI zL 0,zI zL 0,.bool false] 108)
 have S5:=zH (S4.out.bel bl)
 have R5:=zH (R4.out.bel bl)
 have X5:=zH (X4.out.bel bl)
 unfold opV
 clear bl S4 R4 X4
 go_wp2_with fail
 generalize v4.alloc (.cells #[zI zL 0,zI zL 0,.bool false] 108)=V5 at *
 have KF:=zH (KM.out V5.drew S5.out.drew.rd)
 generalize nameO (ts.drop k)=oo at KF HO
 have x1:=X5.out.c1
 have hS:V5.drew.cell? ⟨v.heap.size,1,none⟩=some (zI zL ta):=x1
 refine wp_region_held (S:=fun w':World=>w'.cell? ⟨v.heap.size,1,none⟩=some (zI zL ta)) mixed ?_
 change wpAnyH _ _ _ _ _ _ _ _ V5.drew
 refine tk0 (v:=?_) zab zab zab (fun _ _ _ h=>h) (Or.inl ⟨by rfl,?_⟩) hS ?_
 rotate_left
 ·(intro w hSw;(try dsimp only at hSw);go_simp;try with_reducible rfl)
 simp only[Act.put,zA,zB,zC]
 refine tk1 (v:=?_) zab zab zab (fun _ _ _ h=>h) (Or.inl ⟨by rfl,?_⟩) hS ?_
 rotate_left
 ·(intro w hSw;(try dsimp only at hSw);go_simp;try with_reducible rfl)
 simp only[Act.put,zA,zB,zC]
 refine tk2 (v:=?_) zab zab zab (fun _ _ _ h=>h) (Or.inl ⟨by rfl,?_⟩) hS ?_
 rotate_left
 ·(intro w hSw;(try dsimp only at hSw);go_simp;try with_reducible rfl)
 simp only[Act.put,zA,zB,zC]
 refine wpAnyH_ready (rs:=[3]) zab (by simp) (st3 (fun K hK=>?_) AllReadyH.nil)
 go_simp
 refine KF.out.mono ?_
 cases oo with
 | er E q m =>
  rintro _ v8 ⟨k5,rfl,hkp,hrd,hm⟩
  have S8:=zH (S5.out.drew.call hkp hrd)
  go_wp2_with fail
  exact aa rfl (ak.er HO.out.symm rfl hm S8.out)
 | ok nm r =>
  rintro _ v8 ⟨_,k5,rfl,rfl,hkp,hrd,rfl⟩
  have hdr:=(Below.refl V5.heap.size V5).drew
  have S8:=zH (S5.out.drew.call hkp hrd)
  have R8:=zH ((R5.out.bel hdr).call hkp NB)
  have X8:=zH ((X5.out.bel hdr).call hkp NB1)
  clear hdr hkp hrd S5 R5 X5 KF KM
  go_wp2_with fail
  refine hK.out _ _ ?_ (fun hHeld=>?_)
  ·exact X8.out.c1
  clear hK K
  try simp only[Act.put,zA,zB,zC]
  refine tk4 (v:=?_) zab zab zab (fun _ _ _ h=>h) (Or.inl ⟨by rfl,?_⟩) hHeld ?_
  rotate_left
  ·(intro w hSw;(try dsimp only at hSw);go_simp;try with_reducible rfl)
  simp only[Act.put,zA,zB,zC]
  obtain⟨r0,r1,r2,r3,r4,r5,r6,r7,r8,r9,q0,q1,q2,q3,q4,q5,q6,q7,q8,q9⟩:=R8.out
  have NXR:v.heap.size≠w.heap.size:=zac
  refine wpAnyH_ready (rs:=[5]) zab (by simp) (st5 (fun K hK=>?_) AllReadyH.nil)
  go_simp
  have XT:=zH ((((((((((X8.out.other NXR 0 none (zI zL 2)).other NXR 1 none (zI zL ta)).other NXR 2 none (.string (bs nm))).other NXR 3 none (zI zL 0)).other NXR 4 none (zI zL 0)).other NXR 5 none (.bool false)).other NXR 6 none (zI zL 0)).other NXR 7 none (zI zL 0)).other NXR 8 none (zI zL 0)).other NXR 9 none (.slice none 0 0))
  refine hK.out _ _ ?_ (fun hHeld=>?_)
  ·exact XT.out.c1
  clear hK K
  try simp only[Act.put,zA,zB,zC]
  refine wpAnyH_done zab ?_ _
  go_wp2_with fail
  refine(?_:∀F:World,B10 F w.heap.size (zI zL 2) (zI zL ta) (.string (bs nm)) (zI zL 0) (zI zL 0) (.bool false) (zI zL 0) (zI zL 0) (zI zL 0) (.slice none 0 0)->Sx w F b p cap qb ts En mb k5->bodyPost _ _ _ _ _ F) _ (R8.out.put _ _ _ _ _ _ _ _ _ _) ((((((((((S8.out.other (Nat.le_refl _) 0 _).other (Nat.le_refl _) 1 _).other (Nat.le_refl _) 2 _).other (Nat.le_refl _) 3 _).other (Nat.le_refl _) 4 _).other (Nat.le_refl _) 5 _).other (Nat.le_refl _) 6 _).other (Nat.le_refl _) 7 _).other (Nat.le_refl _) 8 _).other (Nat.le_refl _) 9 _)
  intro F hF hS
  obtain⟨y0,y1,y2,y3,y4,y5,y6,y7,y8,y9,-,-,-,-,-,-,-,-,-,-⟩:=hF
  refine bodyPost_ret (v:= .agg #[zI zL 2,zI zL ta,.string (bs nm),zI zL 0,zI zL 0,.bool false,zI zL 0,zI zL 0,zI zL 0,.slice none 0 0]) zbs rfl (ak.ok HO.out.symm ⟨⟨2,ta,bs nm,0,0,false,0,0,0,none,0,0⟩,rfl,?_⟩ hS)
  rw[HAT.out]
  exact bP F w.heap.size (ag ts En) 2 (ts.length-k) nm 0 0 1
end
section
variable {b cap qb En mb:Nat} {p:Option Addr} {ts:List Tok}
theorem Cc {k:Nat}(w:World)(h:Rd w b p cap qb ts En mb k)(hk:(pk ts En k).k=2) :
  Calls Tryz.prog 144 #[.pointer (some ⟨b,0,none⟩)] w fun e w'=>ak w b p cap qb ts En mb (vX w.heap.size (ag ts En)) (EW M0 (pk ts En k) (ts.drop (k+1))) e w':=by
 have hl:k<ts.length:=jI (En:=En) (by rw[hk];decide)
 have hw:which units (ts.drop (k+1))=idx units (pk ts En (k+1)).t:=by
  unfold which
  rw[eZ (En:=En) h.ok units 0 zah]
  cases idx units (pk ts En (k+1)).t<;>rfl
 have hL:(ts.drop (k+1)).length+1=ts.length-k:=zbn
 have hL2:(ts.drop (k+1)).length-1=ts.length-(k+1+1):=zbn
 unfold EW
 rw[hw,hL,hL2,List.tail_drop]
 cases hu:idx units (pk ts En (k+1)).t with
 | none=>exact yE w h hk hu
 | some u =>
  simp only
  by_cases h2:u=2
  ·subst h2
   rw[if_pos rfl]
   by_cases hz:(M0 (pk ts En k).n (pk ts En k).d).2.2=0
   ·rw[if_pos hz];exact vL w h hk hu hz
   ·rw[if_neg hz];exact sZ w h hk hu hz
  ·rw[if_neg h2];exact zu w h hk u hu h2
def RX (b:Nat)(p:Option Addr)(cap qb:Nat)(ts:List Tok)(En mb:Nat)(F:FuncId)(j:Job)(N:Nat):Prop :=
 ∀(k:Nat) (w:World),Rd w b p cap qb ts En mb k->ts.length-k<=N->Calls Tryz.prog F #[.pointer (some ⟨b,0,none⟩)] w fun e w'=>ak w b p cap qb ts En mb (vX w.heap.size (ag ts En)) (rd M0 j (ts.drop k)) e w'
theorem nA {N:Nat}(HX:∀(k:Nat) (w:World),Rd w b p cap qb ts En mb k->ts.length-k<N->Calls Tryz.prog 48 #[.pointer (some ⟨b,0,none⟩)] w fun e w'=>ak w b p cap qb ts En mb (vX w.heap.size (ag ts En)) (rd M0 .ex (ts.drop k)) e w') :
  RX b p cap qb ts En mb 138 (.row 6) N:=by
 intro k w h hN
 have e6:rd M0 (.row 6) (ts.drop k)=factor M0 (rd M0 .ex) (ts.drop k):=by
  rw[fK]
  simp only[Pa.step]
  rw[if_pos zah]
 rw[e6,wD (En:=En) h.ok]
 by_cases h2:(pk ts En k).k=2
 ·rw[if_pos h2]
  exact Cn _ w h h2 fun w h=>Cc w h h2
 ·rw[if_neg h2]
  cases hp:isW sLp (ts.drop k)
  ·rw[if_neg (by simp)]
   cases ht:isW bB (ts.drop k)
   ·rw[if_neg (by simp)]
    cases hi:idx [gX,iy] (pk ts En k).t with
    | some i =>
     have ho:opAt 6 (pk ts En k).t=some (((7+i:Nat):Int),false):=by rw[pX,hi];rfl
     have hl:k<ts.length:=by
      rcases Nat.lt_or_ge k ts.length with z|z
      ·exact z
      ·rw[iI z,ji] at hi;cases hi
     exact yQ w h h2 hp ht _ ho _ fun w h'=>yt _ _ w h' fun k' w h'' hlt=>HX k' w h'' zac
    | none =>
     have ho:opAt 6 (pk ts En k).t=none:=by rw[pX,hi];rfl
     have:=xG w h h2 hp ht ho
     have e:(nameO (ts.drop k)).bind (fun nm r=>Out.ok (Tree.mk 2 (ts.length-k) nm 0 0 1 []) r)=if isA (ts.drop k)=true then .ok (.mk 2 (ts.length-k) (pk ts En k).t 0 0 1 []) (ts.drop (k+1)) else bad (ts.drop k):=by
      rw[qj (En:=En) h.ok,zF (En:=En) h.ok]
      split<;>rfl
     rw[e] at this
     exact this
   ·rw[if_pos rfl]
    exact zb w h h2 hp ht
  ·rw[if_pos rfl]
   have hl:k<ts.length:=by
    rcases Nat.lt_or_ge k ts.length with z|z
    ·exact z
    ·rw[List.drop_eq_nil_of_le z] at hp;cases hp
   exact Ej w h h2 hp fun k' w h' hlt=>HX k' w h' zac
theorem nJ (args:Array Value)(w:World):(callFunc 138 args).run Tryz.prog w = .ok (.enter 138 args) w:=zab
theorem sF (args:Array Value)(w:World):(callFunc 130 args).run Tryz.prog w = .ok (.enter 130 args) w:=zab
theorem vP (args:Array Value)(w:World):(callFunc 99 args).run Tryz.prog w = .ok (.enter 99 args) w:=zab
theorem xw (args:Array Value)(w:World):(callFunc 84 args).run Tryz.prog w = .ok (.enter 84 args) w:=zab
theorem uI {N:Nat}(H:RX b p cap qb ts En mb 138 (.row 6) N):RX b p cap qb ts En mb 130 (.row 5) N :=
 fun k w h hN=>xW _ w h fun w h=>jw 5 zah zah N _ nJ H k w h hN
theorem zV {N:Nat}(H:RX b p cap qb ts En mb 130 (.row 5) N):RX b p cap qb ts En mb 120 (.row 4) N :=
 fun k w h hN=>A8 _ w h fun w h=>jw 4 zah zah N _ sF H k w h hN
theorem iB {N:Nat}(H:RX b p cap qb ts En mb 120 (.row 4) N):RX b p cap qb ts En mb 111 (.row 3) N :=
 fun k w h hN=>kN w h fun k' w h' hle=>H k' w h' zac
theorem zP {N:Nat}(H:RX b p cap qb ts En mb 111 (.row 3) N):RX b p cap qb ts En mb 99 (.row 2) N:=by
 suffices ∀n,n<=N->RX b p cap qb ts En mb 99 (.row 2) n from this N (Nat.le_refl _)
 intro n
 induction n with
 | zero =>
  intro _ k w h hN
  have hw:isW oH (ts.drop k)=false:=by rw[List.drop_eq_nil_of_le zac];rfl
  rw[Ab,if_neg (by rw[hw];simp)]
  exact vV _ w h hw fun w h=>H k w h zac
 | succ n ih =>
  intro hn k w h hN
  rw[Ab]
  cases hw:isW oH (ts.drop k)
  ·rw[if_neg (by simp)]
   exact vV _ w h hw fun w h=>H k w h zac
  ·rw[if_pos rfl]
   exact Br w h hw fun w h=>ih zac (k+1) w h zac
theorem zW {N:Nat}(H:RX b p cap qb ts En mb 99 (.row 2) N):RX b p cap qb ts En mb 84 (.row 1) N :=
 fun k w h hN=>BP _ w h fun w h=>jw 1 zah zah N _ vP H k w h hN
theorem Df {N:Nat}(H:RX b p cap qb ts En mb 84 (.row 1) N):RX b p cap qb ts En mb 68 (.row 0) N :=
 fun k w h hN=>Ee _ w h fun w h=>jw 0 zah zah N _ xw H k w h hN
theorem BI:∀N,RX b p cap qb ts En mb 48 .ex N:=by
 intro N
 induction N with
 | zero =>
  intro k w h hN
  have hw:isW kIf (ts.drop k)=false:=by rw[List.drop_eq_nil_of_le zac];rfl
  rw[DL,if_neg (by rw[hw];simp)]
  exact qh _ w h hw fun w h=>Df (zW (zP (iB (zV (uI (nA (N:=0) fun k w h hlt=>absurd hlt (Nat.not_lt_zero _))))))) k w h hN
 | succ N ih =>
  intro k w h hN
  rw[DL]
  have HX:∀(k:Nat) (w:World),Rd w b p cap qb ts En mb k->ts.length-k<N+1->Calls Tryz.prog 48 #[.pointer (some ⟨b,0,none⟩)] w fun e w'=>ak w b p cap qb ts En mb (vX w.heap.size (ag ts En)) (rd M0 .ex (ts.drop k)) e w':=fun k w h hlt=>ih k w h zac
  cases hw:isW kIf (ts.drop k)
  ·rw[if_neg (by simp)]
   exact qh _ w h hw fun w h=>Df (zW (zP (iB (zV (uI (nA HX)))))) k w h hN
  ·rw[if_pos rfl]
   exact AQ w h hw fun k' w h' hlt=>HX k' w h' zac
theorem qV (k:Nat)(w:World)(h:Rd w b p cap qb ts En mb k):Calls Tryz.prog 48 #[.pointer (some ⟨b,0,none⟩)] w fun e w'=>ak w b p cap qb ts En mb (vX w.heap.size (ag ts En)) (rd M0 .ex (ts.drop k)) e w':=BI _ k w h (Nat.le_refl _)
end
theorem dQ {w:World}{A:Nat->Prop}{ofs:Nat->Int}{b:Nat}:∀(ks:List Tree) (off i:Nat) (h:i<ks.length),bQ w A ofs b off ks->∃x:NV,(∀(j:Nat) (v:Value),x.cells[j]? = some v->w.cell? ⟨b,off+i*10+j,none⟩=some v)/\NodeA w A ofs ks[i] x
 | k::ks,off,0,_,h=>by
  simp only[bQ] at h
  obtain⟨⟨x,h1,h2⟩,-⟩:=h
  exact⟨x,fun j v hv=>by have:=h1 j v hv;simpa using this,h2⟩
 | k::ks,off,i+1,hi,h=>by
  simp only[bQ] at h
  obtain⟨x,h1,h2⟩:=dQ ks (off+10) i (by simpa using hi) h.2
  exact⟨x,fun j v hv=>by rw[show off+(i+1)*10+j=off+10+i*10+j from zac];exact h1 j v hv,zcw⟩
theorem fU (l:List Tree)(i:Nat)(h:i<l.length):dO (l.take (i+1))=dO (l.take i)+l[i].siz:=by
 induction l generalizing i with
 | nil=>cases h
 | cons k ks ih =>
  cases i with
  | zero=>simp[dO]
  | succ i =>
   have:=ih i zbt
   simp only[List.take_succ_cons,dO,List.getElem_cons_succ]
   omega
theorem jY (l:List Tree)(i:Nat)(h:i<l.length):gJ (l.take (i+1))=max (gJ (l.take i)) l[i].dep:=by
 induction l generalizing i with
 | nil=>cases h
 | cons k ks ih =>
  cases i with
  | zero=>simp[gJ]
  | succ i =>
   have:=ih i zbt
   simp only[List.take_succ_cons,gJ,List.getElem_cons_succ]
   omega
theorem jL (l:List Tree)(i:Nat):dO (l.take i)<=dO l:=by
 induction l generalizing i with
 | nil=>simp
 | cons k ks ih =>
  cases i with
  | zero=>simp[dO]
  | succ i=>have:=ih i;simp only[List.take_succ_cons,dO];omega
mutual
theorem CK:∀t:Tree,t.dep<=t.siz
 | .mk _ _ _ _ _ _ ks=>by simp only[Tree.dep,Tree.siz];have:=jM ks;omega
theorem jM:∀l:List Tree,gJ l<=dO l
 | []=>Nat.le_refl _
 | k::ks=>by simp only[gJ,dO];have:=CK k;have:=jM ks;omega
end
theorem iH:∀l:List Tree,l.length<=dO l
 | []=>Nat.le_refl _
 | .mk _ _ _ _ _ _ _::ks=>by simp only[List.length_cons,dO,Tree.siz];have:=iH ks;omega
theorem jG (N:Nat):∀(t:Tree),t.siz<=N->t.siz<=1000000->∀(A:Nat->Prop) (ofs:Nat->Int) (x:NV) (w:World),NodeA w A ofs t x->Calls Tryz.prog 70 #[nv x] w fun e w'=>e = .returned (.tuple #[zI zL (t.siz:Nat),zI zL (t.dep:Nat)])/\RowKit.Below w.heap.size w w':=by
 induction N with
 | zero=>intro t h;cases t;simp[Tree.siz] at h
 | succ N ih =>
  intro t hN hm A ofs x w hx
  obtain⟨op,pl,nm,n0,d0,u0,ks⟩:=t
  simp only[Tree.siz,Tree.dep] at hN hm |-
  have hkl:=iH ks
  have hdl:=jM ks
  have KM:=zH (fun (i:Nat) (hi:i<ks.length)=>ih ks[i] zbg zbg A ofs)
  clear ih
  obtain⟨xo,xa,xs,xn,xd,xf,xm,xr,xy,xq,xk,xc⟩:=x
  have hx2:=hx
  unfold NodeA at hx2
  obtain⟨⟨-,-,-,-,-,-,-,-,-,hkk⟩,bq,off,hp,hK⟩:=hx2
  simp only at hkk hp
  subst hkk
  unfold nv
  obtain⟨W1,hW1⟩:∃W1,W1=w.alloc (.cells #[zI zL xo,zI zL xa,.string xs,zI zL xn,zI zL xd,.bool xf,zI zL xm,zI zL xr,zI zL xy,.slice xq ks.length xc] 36):=⟨_,rfl⟩
  have HB:Hid (RowKit.Below w.heap.size w W1):=by rw[hW1];exact(Below.refl _ _).alloc (Nat.le_refl _) _
  have HK:=zH hK
  have HP:=zH hp
  clear hx hK hp
  go_enter Tryz.func70,Tryz.ntmps70
  go_wp2_with fail
  rw[<-hW1]
  clear hW1
  go_loopg [2,3,11] ks.length (fun g v2 v3 v11 wr=>∃i:Nat,i<=ks.length/\ks.length-i<=g/\v2 = zI zL (dO (ks.take i):Nat)/\v3 = zI zL (gJ (ks.take i):Nat)/\v11 = zI zL i/\Hid (RowKit.Below w.heap.size w wr))
  case atStart=>exact⟨0,Nat.zero_le _,zac,by simp[dO],by simp[gJ],by simp,HB⟩
  case round =>
   obtain⟨i,hi,hg,rfl,rfl,rfl,HW⟩:=hrel
   by_cases hlt:i<ks.length
   ·have hz:(i:Int)<(ks.length:Int):=by omega
    have hq:=(HP.out zac).1
    have hbq:=(HP.out zac).2.2
    subst hq
    obtain⟨⟨yo,ya,ys,yn,yd,yf,ym,yr,yy,yq,yk,yc⟩,hc,hn⟩:=dQ ks off i hlt (bQ.keep HW.out.size (fun j _ hj=>HW.out.block j hj) (fun _ h _=>h) bq (HP.out zac).2.1 hbq off ks HK.out)
    have z0:=hc 0 _ rfl
    have z1:=hc 1 _ rfl
    have z2:=hc 2 _ rfl
    have z3:=hc 3 _ rfl
    have z4:=hc 4 _ rfl
    have z5:=hc 5 _ rfl
    have z6:=hc 6 _ rfl
    have z7:=hc 7 _ rfl
    have z8:=hc 8 _ rfl
    have z9:=hc 9 _ rfl
    rw[Nat.add_zero] at z0
    have HN:=zH hn
    clear hc hn
    have e1:IntKind.i64.wrap ((dO (ks.take i):Int)+(ks[i].siz:Int))=(dO (ks.take (i+1)):Nat):=by
     have h1:=fU ks i hlt
     have h2:=jL ks (i+1)
     rw[IntWalk.i64_in _ zac,h1];rfl
    have e2:IntKind.i64.wrap ((i:Int)+1)=((i+1:Nat):Int):=zal
    have E3:Hid (gJ (ks.take (i+1))=max (gJ (ks.take i)) ks[i].dep):=jY ks i hlt
    have bl:=(Below.refl wr.heap.size wr).alloc (Nat.le_refl _) (.cells #[zI zL yo,zI zL ya,.string ys,zI zL yn,zI zL yd,.bool yf,zI zL ym,zI zL yr,zI zL yy,.slice yq yk yc] 36)
    have KQ:=zH (KM.out i hlt _ _ (NodeA.bel bl _ _ HN.out))
    have HW2:=zH (HW.out.trans (bl.mono HW.out.size))
    clear bl HW HN
    generalize ks[i].siz=si at *
    generalize ks[i].dep=di at *
    go_wp2_with fail
    clear z0 z1 z2 z3 z4 z5 z6 z7 z8 z9
    refine KQ.out.mono ?_
    rintro _ v ⟨rfl,hb⟩
    have HW3:=zH (HW2.out.trans (hb.mono HW2.out.size))
    clear hb HW2 KQ
    go_wp2_with fail
    all_goals
     go_roundg (ks.length-(i+1))
     case measure=>omega
     case rel=>exact⟨i+1,zac,Nat.le_refl _,rfl,by rw[E3.out];congr 1;omega,by simp,HW3⟩
   ·have hz:¬(i:Int)<(ks.length:Int):=by omega
    have hie:i=ks.length:=zac
    subst hie
    rw[List.take_length]
    have e1:IntKind.i64.wrap ((dO ks:Int)+1)=((dO ks+1:Nat):Int):=zal
    have e2:IntKind.i64.wrap ((gJ ks:Int)+1)=((gJ ks+1:Nat):Int):=zal
    go_wp2_with fail
    exact bodyPost_ret (v:= .tuple #[zI zL (dO ks+1:Nat),zI zL (gJ ks+1:Nat)]) (by simp[results,Tryz.results70,go_sem]) rfl ⟨rfl,HW.out⟩
theorem uw (t:Tree)(hm:t.siz<=1000000)(hb:big t=false)(A:Nat->Prop)(ofs:Nat->Int)(x:NV)(w:World)(hx:NodeA w A ofs t x):Calls Tryz.prog 50 #[nv x] w fun e w'=>e = .returned (.tuple #[])/\RowKit.Below w.heap.size w w':=by
 have KM:=zH (fun w hx=>jG _ t (Nat.le_refl _) hm A ofs x w hx)
 unfold big at hb
 simp only[Bool.or_eq_false_iff,decide_eq_false_iff_not] at hb
 have h1:decide ((200:Int)<(t.siz:Int))=false:=decide_eq_false zac
 have h2:decide ((20:Int)<(t.dep:Int))=false:=decide_eq_false zac
 have h1':¬(200:Int)<(t.siz:Int):=zac
 have h2':¬(20:Int)<(t.dep:Int):=zac
 obtain⟨xo,xa,xs,xn,xd,xf,xm,xr,xy,xq,xk,xc⟩:=x
 unfold nv at KM |-
 have bl:=(Below.refl w.heap.size w).alloc (Nat.le_refl _) (.cells #[zI zL xo,zI zL xa,.string xs,zI zL xn,zI zL xd,.bool xf,zI zL xm,zI zL xr,zI zL xy,.slice xq xk xc] 36)
 have HX:=zH (NodeA.bel bl _ _ hx)
 have HB:=zH bl
 clear hx bl
 go_enter Tryz.func50,Tryz.ntmps50
 go_wp2_with fail
 generalize w.alloc (.cells #[zI zL xo,zI zL xa,.string xs,zI zL xn,zI zL xd,.bool xf,zI zL xm,zI zL xr,zI zL xy,.slice xq xk xc] 36)=v at *
 refine(KM.out _ HX.out).mono ?_
 rintro _ v2 ⟨rfl,hb2⟩
 have HB2:=zH (HB.out.trans (hb2.mono HB.out.size))
 clear hb2 HX KM
 go_wp2_with fail
 go_end0
 exact⟨rfl,HB2.out⟩
theorem wK (t:Tree)(hm:t.siz<=1000000)(hb:big t=true)(A:Nat->Prop)(ofs:Nat->Int)(x:NV)(w:World)(hx:NodeA w A ofs t x):Calls Tryz.prog 50 #[nv x] w fun e w'=>e = .panicked (gK 2 (ofs t.pl))/\RowKit.Below w.heap.size w w':=by
 have KM:=zH (fun w hx=>jG _ t (Nat.le_refl _) hm A ofs x w hx)
 have ha:x.a=ofs t.pl:=by cases t;unfold NodeA at hx;exact hx.1.2.1
 unfold big at hb
 simp only[Bool.or_eq_true,decide_eq_true_eq] at hb
 obtain⟨xo,xa,xs,xn,xd,xf,xm,xr,xy,xq,xk,xc⟩:=x
 simp only at ha
 rw[<-ha]
 unfold nv at KM |-
 have bl:=(Below.refl w.heap.size w).alloc (Nat.le_refl _) (.cells #[zI zL xo,zI zL xa,.string xs,zI zL xn,zI zL xd,.bool xf,zI zL xm,zI zL xr,zI zL xy,.slice xq xk xc] 36)
 have HX:=zH (NodeA.bel bl _ _ hx)
 have X:=zH (B10.new w (zI zL xo) (zI zL xa) (.string xs) (zI zL xn) (zI zL xd) (.bool xf) (zI zL xm) (zI zL xr) (zI zL xy) (.slice xq xk xc) 36)
 have HB:=zH bl
 clear hx bl ha
 by_cases h1:(200:Int)<(t.siz:Int)
 ·have h1':decide ((200:Int)<(t.siz:Int))=true:=decide_eq_true h1
  exact zz72
 ·have h1':decide ((200:Int)<(t.siz:Int))=false:=decide_eq_false h1
  have h2:(20:Int)<(t.dep:Int):=zac
  have h2':decide ((20:Int)<(t.dep:Int))=true:=decide_eq_true h2
  exact zz72
mutual
def eqT (t:Bool)(f g:Nat->Int):Tree->Tree->Bool
 | .mk o p nm n d u ks,.mk o' p' nm' n' d' u' ks'=>o==o' && (!t||f p==g p')&&nm==nm' && n==n' && d==d' && uF u==uF u' && uM u==uM u' && uA u==uA u' && uD u==uD u' && eqL t f g ks ks'
def eqL (t:Bool)(f g:Nat->Int):List Tree->List Tree->Bool
 | [],[]=>true
 | k::ks,k'::ks'=>eqT t f g k k' && eqL t f g ks ks'
 | _,_=>false
end
theorem uu {t:Bool}{f g:Nat->Int}:∀(a b:List Tree),eqL t f g a b=true->a.length=b.length
 | [],[],_=>rfl
 | k::ks,k'::ks',h=>by
  simp only[eqL,Bool.and_eq_true] at h
  simp[uu ks ks' h.2]
 | [],_::_,h=>by simp[eqL] at h
 | _::_,[],h=>by simp[eqL] at h
theorem mX {t:Bool}{f g:Nat->Int}:∀(a b:List Tree) (i:Nat) (h:i<a.length) (h':i<b.length),eqL t f g (a.drop i) (b.drop i)=(eqT t f g a[i] b[i]&&eqL t f g (a.drop (i+1)) (b.drop (i+1))):=fun a b i h h'=>by
 rw[List.drop_eq_getElem_cons h,List.drop_eq_getElem_cons h']
 simp only[eqL]
theorem kD {w:World}{A:Nat->Prop}{ofs:Nat->Int}{op pl nm n d u ks}{x:NV}(h:NodeA w A ofs (.mk op pl nm n d u ks) x):∃q c,x=⟨op,ofs pl,bs nm,n,d,uF u,uM u,uA u,uD u,q,ks.length,c⟩/\∃b off,(0<ks.length->q=some ⟨b,off,none⟩/\A b/\b<w.heap.size)/\bQ w A ofs b off ks:=by
 obtain⟨xo,xa,xs,xn,xd,xf,xm,xr,xy,xq,xk,xc⟩:=x
 unfold NodeA at h
 obtain⟨⟨h1,h2,h3,h4,h5,h6,h7,h8,h9,h10⟩,h⟩:=h
 simp only at h1 h2 h3 h4 h5 h6 h7 h8 h9 h10 h
 subst h1 h2 h3 h4 h5 h6 h7 h8 h9 h10
 exact⟨xq,xc,rfl,h⟩
theorem wQ {a b:List UInt8}(h:a≠b):((bs a).toList==(bs b).toList)=false:=by rw[aM,aM];simpa using h
theorem Ay (t:Bool)(f g:Nat->Int)(op pl:_)(nm:List UInt8)(n0 d0:Int)(u:Nat)(ks:List Tree)(op' pl':_)(nm':List UInt8)(n0' d0':Int)(u':Nat)(ks':List Tree)(xq yq:Option Addr)(xc yc:Nat)(w:World)
  (h:(op==op' && (!t||f pl==g pl')&&nm==nm' && n0==n0' && d0==d0' && uF u==uF u' && uM u==uM u' && uA u==uA u' && uD u==uD u' && decide (ks.length=ks'.length))=false) :
  Calls Tryz.prog 11 #[.agg #[zI zL op,zI zL (f pl),.string (bs nm),zI zL n0,zI zL d0,.bool (uF u),zI zL (uM u),zI zL (uA u),zI zL (uD u),.slice xq ks.length xc],.agg #[zI zL op',zI zL (g pl'),.string (bs nm'),zI zL n0',zI zL d0',.bool (uF u'),zI zL (uM u'),zI zL (uA u'),zI zL (uD u'),.slice yq ks'.length yc],.bool t] w fun e w'=>e = .returned (.bool false)/\RowKit.Below w.heap.size w w':=by
 have HR:=zH (Below.refl w.heap.size w)
 generalize f pl=fa at *
 generalize g pl'=ga at *
 generalize uF u=a5 at *
 generalize uF u'=b5 at *
 generalize uM u=a6 at *
 generalize uM u'=b6 at *
 generalize uA u=a7 at *
 generalize uA u'=b7 at *
 generalize uD u=a8 at *
 generalize uD u'=b8 at *
 generalize ks.length=kl at *
 generalize ks'.length=kl' at *
 by_cases h1:op=op'
 ·subst h1
  cases t with
  | false =>
   by_cases hx:nm=nm'
   ·exact Dq
   ·have e1:=wQ hx
    clear h hx
    exact zz7
  | true =>
   by_cases h2:fa=ga
   ·subst h2
    by_cases hx:nm=nm'
    ·exact Dq
    ·have e1:=wQ hx
     clear h hx
     exact zz7
   ·have e1:(fa==ga)=false:=by simpa using h2
    clear h
    exact zz7
 ·have e1:(op==op')=false:=by simpa using h1
  clear h
  exact zz7
theorem ru (f g:Nat->Int)(op fa ga:Int)(nm:List UInt8)(n0 d0:Int)(a5:Bool)(a6 a7 a8:Int)(ks ks':List Tree)(kl:Nat)(hk:ks.length=kl)(hk':ks'.length=kl)(hkm:kl<=1000000)(xq yq:Option Addr)(xc yc bx ox bq oq:Nat)(A A':Nat->Prop)(w:World)
  (hx:0<kl->xq=some ⟨bx,ox,none⟩/\A bx/\bx<w.heap.size)(hX:bQ w A f bx ox ks)(hy:0<kl->yq=some ⟨bq,oq,none⟩/\A' bq/\bq<w.heap.size)(hY:bQ w A' g bq oq ks')
  (ih:∀(i:Nat) (h:i<ks.length) (h':i<ks'.length) (x y:NV) (v:World),NodeA v A f ks[i] x->NodeA v A' g ks'[i] y->Calls Tryz.prog 11 #[nv x,nv y,.bool false] v fun e w'=>e = .returned (.bool (eqT false f g ks[i] ks'[i]))/\RowKit.Below v.heap.size v w') :
  Calls Tryz.prog 11 #[.agg #[zI zL op,zI zL fa,.string (bs nm),zI zL n0,zI zL d0,.bool a5,zI zL a6,zI zL a7,zI zL a8,.slice xq kl xc],.agg #[zI zL op,zI zL ga,.string (bs nm),zI zL n0,zI zL d0,.bool a5,zI zL a6,zI zL a7,zI zL a8,.slice yq kl yc],.bool false] w fun e w'=>e = .returned (.bool (eqL false f g ks ks'))/\RowKit.Below w.heap.size w w':=by
 obtain⟨W1,hW1⟩:∃W1,W1=(w.alloc (.cells #[zI zL op,zI zL fa,.string (bs nm),zI zL n0,zI zL d0,.bool a5,zI zL a6,zI zL a7,zI zL a8,.slice xq kl xc] 36)).alloc (.cells #[zI zL op,zI zL ga,.string (bs nm),zI zL n0,zI zL d0,.bool a5,zI zL a6,zI zL a7,zI zL a8,.slice yq kl yc] 36):=⟨_,rfl⟩
 have h1:∀(v:World) (o:Obj),RowKit.Below v.heap.size v (v.alloc o):=fun v o=>(Below.refl _ _).alloc (Nat.le_refl _) o
 have HB:Hid (RowKit.Below w.heap.size w W1):=by
  show RowKit.Below _ _ _
  rw[hW1];exact(h1 w _).trans ((h1 _ _).mono (by simp))
 have BX:Hid (B10 W1 w.heap.size (zI zL op) (zI zL fa) (.string (bs nm)) (zI zL n0) (zI zL d0) (.bool a5) (zI zL a6) (zI zL a7) (zI zL a8) (.slice xq kl xc)):=by
  show B10 _ _ _ _ _ _ _ _ _ _ _ _
  rw[hW1];exact(B10.new w _ _ _ _ _ _ _ _ _ _ _).bel (h1 _ _)
 have BY:Hid (B10 W1 (w.heap.size+1) (zI zL op) (zI zL ga) (.string (bs nm)) (zI zL n0) (zI zL d0) (.bool a5) (zI zL a6) (zI zL a7) (zI zL a8) (.slice yq kl yc)):=by
  have:=B10.new (w.alloc (.cells #[zI zL op,zI zL fa,.string (bs nm),zI zL n0,zI zL d0,.bool a5,zI zL a6,zI zL a7,zI zL a8,.slice xq kl xc] 36)) (zI zL op) (zI zL ga) (.string (bs nm)) (zI zL n0) (zI zL d0) (.bool a5) (zI zL a6) (zI zL a7) (zI zL a8) (.slice yq kl yc) 36
  rw[World.size_alloc] at this
  show B10 _ _ _ _ _ _ _ _ _ _ _ _
  rw[hW1];exact this
 have HX:=zH hX
 have HY:=zH hY
 have HPX:=zH hx
 have HPY:=zH hy
 have IH:=zH ih
 generalize hR:eqL false f g ks ks'=R
 have HR:Hid (eqL false f g (ks.drop 0) (ks'.drop 0)=R):=by show _=_;rw[List.drop_zero,List.drop_zero];exact hR
 clear hX hY hx hy ih h1 hR
 go_enter Tryz.func11,Tryz.ntmps11
 go_wp2_with fail
 rw[<-hW1]
 clear hW1
 go_loopg [7] kl (fun g0 v7 wr=>∃i:Nat,i<=kl/\kl-i<=g0/\v7 = zI zL i/\Hid (eqL false f g (ks.drop i) (ks'.drop i)=R)/\Hid (RowKit.Below W1.heap.size W1 wr))
 case atStart=>exact⟨0,Nat.zero_le _,zac,by simp,HR,Below.refl _ _⟩
 case round =>
  clear HR
  obtain⟨i,hi,hg,rfl,HR,HV⟩:=hrel
  have hwW:w.heap.size<=W1.heap.size:=HB.out.size
  have HBw:=zH (HB.out.trans (HV.out.mono HB.out.size))
  have x9:=(BX.out.bel HV.out).c9
  have y9:=(BY.out.bel HV.out).c9
  by_cases hlt:i<kl
  ·have hz:(i:Int)<(kl:Int):=by omega
   have e2:IntKind.i64.wrap ((i:Int)+1)=((i+1:Nat):Int):=zal
   obtain⟨rfl,-,hbx⟩:=HPX.out zac
   obtain⟨rfl,-,hbq⟩:=HPY.out zac
   obtain⟨⟨uo,ua,us,un,ud,uf,um,ur,uy,uq,uk,uc⟩,hc,hn⟩:=dQ ks ox i zac (bQ.keep HBw.out.size (fun j _ hj=>HBw.out.block j hj) (fun _ h _=>h) bx (HPX.out zac).2.1 hbx ox ks HX.out)
   obtain⟨⟨vo,va,vs,vn,vd,vf,vm,vr,vy,vq,vk,vc⟩,hc',hn'⟩:=dQ ks' oq i zac (bQ.keep HBw.out.size (fun j _ hj=>HBw.out.block j hj) (fun _ h _=>h) bq (HPY.out zac).2.1 hbq oq ks' HY.out)
   have hs:=HBw.out.size
   have z0:=ax zbh (hc 0 _ rfl)
   have q0:=ax zbi (hc' 0 _ rfl)
   have z1:=ax zbh (hc 1 _ rfl)
   have q1:=ax zbi (hc' 1 _ rfl)
   have z2:=ax zbh (hc 2 _ rfl)
   have q2:=ax zbi (hc' 2 _ rfl)
   have z3:=ax zbh (hc 3 _ rfl)
   have q3:=ax zbi (hc' 3 _ rfl)
   have z4:=ax zbh (hc 4 _ rfl)
   have q4:=ax zbi (hc' 4 _ rfl)
   have z5:=ax zbh (hc 5 _ rfl)
   have q5:=ax zbi (hc' 5 _ rfl)
   have z6:=ax zbh (hc 6 _ rfl)
   have q6:=ax zbi (hc' 6 _ rfl)
   have z7:=ax zbh (hc 7 _ rfl)
   have q7:=ax zbi (hc' 7 _ rfl)
   have z8:=ax zbh (hc 8 _ rfl)
   have q8:=ax zbi (hc' 8 _ rfl)
   have z9:=ax zbh (hc 9 _ rfl)
   have q9:=ax zbi (hc' 9 _ rfl)
   rw[Nat.add_zero] at z0 q0
   have X9:=ax (World.block_lt_of_cell? _ _ x9) x9
   have Y9:=ax (World.block_lt_of_cell? _ _ y9) y9
   have KQ:=zH (fun (p:Bw wr)=>IH.out i zac zac ⟨uo,ua,us,un,ud,uf,um,ur,uy,uq,uk,uc⟩ ⟨vo,va,vs,vn,vd,vf,vm,vr,vy,vq,vk,vc⟩ p.w' (NodeA.keep p.h.size (fun j _ hj=>p.h.block j hj) (fun _ h _=>h) _ _ hn) (NodeA.keep p.h.size (fun j _ hj=>p.h.block j hj) (fun _ h _=>h) _ _ hn'))
   unfold nv at KQ
   have HR2:=HR.out
   rw[mX ks ks' i zac zac] at HR2
   have hK1:=hk
   clear hc hc' hn hn'
   cases hq:eqT false f g (ks[i]' zac) (ks'[i]' zac) with
   | false =>
    rw[hq] at HR2
    exact zz73
   | true =>
    rw[hq,Bool.true_and] at HR2
    exact zz69
  ·exact zz95
theorem wB (f g:Nat->Int)(op fa:Int)(nm:List UInt8)(n0 d0:Int)(a5:Bool)(a6 a7 a8:Int)(ks ks':List Tree)(kl:Nat)(hk:ks.length=kl)(hk':ks'.length=kl)(hkm:kl<=1000000)(xq yq:Option Addr)(xc yc bx ox bq oq:Nat)(A A':Nat->Prop)(w:World)
  (hx:0<kl->xq=some ⟨bx,ox,none⟩/\A bx/\bx<w.heap.size)(hX:bQ w A f bx ox ks)(hy:0<kl->yq=some ⟨bq,oq,none⟩/\A' bq/\bq<w.heap.size)(hY:bQ w A' g bq oq ks')
  (ih:∀(i:Nat) (h:i<ks.length) (h':i<ks'.length) (x y:NV) (v:World),NodeA v A f ks[i] x->NodeA v A' g ks'[i] y->Calls Tryz.prog 11 #[nv x,nv y,.bool true] v fun e w'=>e = .returned (.bool (eqT true f g ks[i] ks'[i]))/\RowKit.Below v.heap.size v w') :
  Calls Tryz.prog 11 #[.agg #[zI zL op,zI zL fa,.string (bs nm),zI zL n0,zI zL d0,.bool a5,zI zL a6,zI zL a7,zI zL a8,.slice xq kl xc],.agg #[zI zL op,zI zL fa,.string (bs nm),zI zL n0,zI zL d0,.bool a5,zI zL a6,zI zL a7,zI zL a8,.slice yq kl yc],.bool true] w fun e w'=>e = .returned (.bool (eqL true f g ks ks'))/\RowKit.Below w.heap.size w w':=by
 obtain⟨W1,hW1⟩:∃W1,W1=(w.alloc (.cells #[zI zL op,zI zL fa,.string (bs nm),zI zL n0,zI zL d0,.bool a5,zI zL a6,zI zL a7,zI zL a8,.slice xq kl xc] 36)).alloc (.cells #[zI zL op,zI zL fa,.string (bs nm),zI zL n0,zI zL d0,.bool a5,zI zL a6,zI zL a7,zI zL a8,.slice yq kl yc] 36):=⟨_,rfl⟩
 have h1:∀(v:World) (o:Obj),RowKit.Below v.heap.size v (v.alloc o):=fun v o=>(Below.refl _ _).alloc (Nat.le_refl _) o
 have HB:Hid (RowKit.Below w.heap.size w W1):=by
  show RowKit.Below _ _ _
  rw[hW1];exact(h1 w _).trans ((h1 _ _).mono (by simp))
 have BX:Hid (B10 W1 w.heap.size (zI zL op) (zI zL fa) (.string (bs nm)) (zI zL n0) (zI zL d0) (.bool a5) (zI zL a6) (zI zL a7) (zI zL a8) (.slice xq kl xc)):=by
  show B10 _ _ _ _ _ _ _ _ _ _ _ _
  rw[hW1];exact(B10.new w _ _ _ _ _ _ _ _ _ _ _).bel (h1 _ _)
 have BY:Hid (B10 W1 (w.heap.size+1) (zI zL op) (zI zL fa) (.string (bs nm)) (zI zL n0) (zI zL d0) (.bool a5) (zI zL a6) (zI zL a7) (zI zL a8) (.slice yq kl yc)):=by
  have:=B10.new (w.alloc (.cells #[zI zL op,zI zL fa,.string (bs nm),zI zL n0,zI zL d0,.bool a5,zI zL a6,zI zL a7,zI zL a8,.slice xq kl xc] 36)) (zI zL op) (zI zL fa) (.string (bs nm)) (zI zL n0) (zI zL d0) (.bool a5) (zI zL a6) (zI zL a7) (zI zL a8) (.slice yq kl yc) 36
  rw[World.size_alloc] at this
  show B10 _ _ _ _ _ _ _ _ _ _ _ _
  rw[hW1];exact this
 have HX:=zH hX
 have HY:=zH hY
 have HPX:=zH hx
 have HPY:=zH hy
 have IH:=zH ih
 generalize hR:eqL true f g ks ks'=R
 have HR:Hid (eqL true f g (ks.drop 0) (ks'.drop 0)=R):=by show _=_;rw[List.drop_zero,List.drop_zero];exact hR
 clear hX hY hx hy ih h1 hR
 go_enter Tryz.func11,Tryz.ntmps11
 go_wp2_with fail
 rw[<-hW1]
 clear hW1
 go_loopg [7] kl (fun g0 v7 wr=>∃i:Nat,i<=kl/\kl-i<=g0/\v7 = zI zL i/\Hid (eqL true f g (ks.drop i) (ks'.drop i)=R)/\Hid (RowKit.Below W1.heap.size W1 wr))
 case atStart=>exact⟨0,Nat.zero_le _,zac,by simp,HR,Below.refl _ _⟩
 case round =>
  clear HR
  obtain⟨i,hi,hg,rfl,HR,HV⟩:=hrel
  have hwW:w.heap.size<=W1.heap.size:=HB.out.size
  have HBw:=zH (HB.out.trans (HV.out.mono HB.out.size))
  have x9:=(BX.out.bel HV.out).c9
  have y9:=(BY.out.bel HV.out).c9
  by_cases hlt:i<kl
  ·have hz:(i:Int)<(kl:Int):=by omega
   have e2:IntKind.i64.wrap ((i:Int)+1)=((i+1:Nat):Int):=zal
   obtain⟨rfl,-,hbx⟩:=HPX.out zac
   obtain⟨rfl,-,hbq⟩:=HPY.out zac
   obtain⟨⟨uo,ua,us,un,ud,uf,um,ur,uy,uq,uk,uc⟩,hc,hn⟩:=dQ ks ox i zac (bQ.keep HBw.out.size (fun j _ hj=>HBw.out.block j hj) (fun _ h _=>h) bx (HPX.out zac).2.1 hbx ox ks HX.out)
   obtain⟨⟨vo,va,vs,vn,vd,vf,vm,vr,vy,vq,vk,vc⟩,hc',hn'⟩:=dQ ks' oq i zac (bQ.keep HBw.out.size (fun j _ hj=>HBw.out.block j hj) (fun _ h _=>h) bq (HPY.out zac).2.1 hbq oq ks' HY.out)
   have hs:=HBw.out.size
   have z0:=ax zbh (hc 0 _ rfl)
   have q0:=ax zbi (hc' 0 _ rfl)
   have z1:=ax zbh (hc 1 _ rfl)
   have q1:=ax zbi (hc' 1 _ rfl)
   have z2:=ax zbh (hc 2 _ rfl)
   have q2:=ax zbi (hc' 2 _ rfl)
   have z3:=ax zbh (hc 3 _ rfl)
   have q3:=ax zbi (hc' 3 _ rfl)
   have z4:=ax zbh (hc 4 _ rfl)
   have q4:=ax zbi (hc' 4 _ rfl)
   have z5:=ax zbh (hc 5 _ rfl)
   have q5:=ax zbi (hc' 5 _ rfl)
   have z6:=ax zbh (hc 6 _ rfl)
   have q6:=ax zbi (hc' 6 _ rfl)
   have z7:=ax zbh (hc 7 _ rfl)
   have q7:=ax zbi (hc' 7 _ rfl)
   have z8:=ax zbh (hc 8 _ rfl)
   have q8:=ax zbi (hc' 8 _ rfl)
   have z9:=ax zbh (hc 9 _ rfl)
   have q9:=ax zbi (hc' 9 _ rfl)
   rw[Nat.add_zero] at z0 q0
   have X9:=ax (World.block_lt_of_cell? _ _ x9) x9
   have Y9:=ax (World.block_lt_of_cell? _ _ y9) y9
   have KQ:=zH (fun (p:Bw wr)=>IH.out i zac zac ⟨uo,ua,us,un,ud,uf,um,ur,uy,uq,uk,uc⟩ ⟨vo,va,vs,vn,vd,vf,vm,vr,vy,vq,vk,vc⟩ p.w' (NodeA.keep p.h.size (fun j _ hj=>p.h.block j hj) (fun _ h _=>h) _ _ hn) (NodeA.keep p.h.size (fun j _ hj=>p.h.block j hj) (fun _ h _=>h) _ _ hn'))
   unfold nv at KQ
   have HR2:=HR.out
   rw[mX ks ks' i zac zac] at HR2
   have hK1:=hk
   clear hc hc' hn hn'
   cases hq:eqT true f g (ks[i]' zac) (ks'[i]' zac) with
   | false =>
    rw[hq] at HR2
    exact zz73
   | true =>
    rw[hq,Bool.true_and] at HR2
    exact zz69
  ·exact zz95
theorem jm (t:Bool)(f g:Nat->Int)(N:Nat):∀(a b:Tree),a.siz<=N->a.siz<=1000000->∀(A A':Nat->Prop) (x y:NV) (w:World),NodeA w A f a x->NodeA w A' g b y->Calls Tryz.prog 11 #[nv x,nv y,.bool t] w fun e w'=>e = .returned (.bool (eqT t f g a b))/\RowKit.Below w.heap.size w w':=by
 induction N with
 | zero=>intro a b h;cases a;simp[Tree.siz] at h
 | succ N ih =>
  intro a b hN hm A A' x y w hx hy
  obtain⟨op,pl,nm,n0,d0,u,ks⟩:=a
  obtain⟨op',pl',nm',n0',d0',u',ks'⟩:=b
  simp only[Tree.siz] at hN hm
  have hkl:=iH ks
  have ihk:∀(i:Nat) (h:i<ks.length) (h':i<ks'.length) (x y:NV) (v:World),NodeA v A f ks[i] x->NodeA v A' g ks'[i] y->Calls Tryz.prog 11 #[nv x,nv y,.bool t] v fun e w'=>e = .returned (.bool (eqT t f g ks[i] ks'[i]))/\RowKit.Below v.heap.size v w':=fun i h h' x y v hx hy =>
   ih ks[i] ks'[i] (by have h1:=fU ks i h;have h2:=jL ks (i+1);omega) (by have h1:=fU ks i h;have h2:=jL ks (i+1);omega) A A' x y v hx hy
  clear ih
  obtain⟨xq,xc,rfl,bx,ox,hx1,hx2⟩:=kD hx
  obtain⟨yq,yc,rfl,bq,oq,hy1,hy2⟩:=kD hy
  clear hx hy
  have hE:eqT t f g (.mk op pl nm n0 d0 u ks) (.mk op' pl' nm' n0' d0' u' ks')=(op==op' && (!t||f pl==g pl')&&nm==nm' && n0==n0' && d0==d0' && uF u==uF u' && uM u==uM u' && uA u==uA u' && uD u==uD u' && eqL t f g ks ks'):=by simp only[eqT]
  cases hl:(op==op' && (!t||f pl==g pl')&&nm==nm' && n0==n0' && d0==d0' && uF u==uF u' && uM u==uM u' && uA u==uA u' && uD u==uD u' && decide (ks.length=ks'.length)) with
  | false =>
   have hf:eqT t f g (.mk op pl nm n0 d0 u ks) (.mk op' pl' nm' n0' d0' u' ks')=false:=by
    rw[hE]
    cases hq:eqL t f g ks ks' with
    | false=>rw[Bool.and_false]
    | true =>
     rw[decide_eq_true (uu ks ks' hq)] at hl
     exact hl
   rw[hf]
   exact Ay t f g op pl nm n0 d0 u ks op' pl' nm' n0' d0' u' ks' xq yq xc yc w hl
  | true =>
   have hf:eqT t f g (.mk op pl nm n0 d0 u ks) (.mk op' pl' nm' n0' d0' u' ks')=eqL t f g ks ks':=by
    rw[hE]
    simp only[Bool.and_eq_true] at hl
    obtain⟨⟨⟨⟨⟨⟨⟨⟨⟨l1,l2⟩,l3⟩,l4⟩,l5⟩,l6⟩,l7⟩,l8⟩,l9⟩,-⟩:=hl
    rw[l1,l2,l3,l4,l5,l6,l7,l8,l9]
    rfl
   rw[hf]
   simp only[Bool.and_eq_true,beq_iff_eq,decide_eq_true_eq,Bool.or_eq_true,Bool.not_eq_true'] at hl
   obtain⟨⟨⟨⟨⟨⟨⟨⟨⟨l1,l2⟩,l3⟩,l4⟩,l5⟩,l6⟩,l7⟩,l8⟩,l9⟩,l10⟩:=hl
   subst l1 l3 l4 l5
   unfold nv
   simp only
   rw[<-l6,<-l7,<-l8,<-l9,<-l10]
   cases t with
   | false=>exact ru f g op (f pl) (g pl') nm n0 d0 (uF u) (uM u) (uA u) (uD u) ks ks' ks.length rfl l10.symm zac xq yq xc yc bx ox bq oq A A' w hx1 hx2 (by rw[l10];exact hy1) hy2 ihk
   | true =>
    have l2':f pl=g pl':=by simpa using l2
    rw[<-l2']
    exact wB f g op (f pl) nm n0 d0 (uF u) (uM u) (uA u) (uD u) ks ks' ks.length rfl l10.symm zac xq yq xc yc bx ox bq oq A A' w hx1 hx2 (by rw[l10];exact hy1) hy2 ihk
end Go.Proofs.YtnjfolljbfkojaaGreatDoor
namespace Go.Proofs.YtnjfolljbfkojaaGreatDoor
open Go.Value renaming int→zI
open Go.IntKind renaming i64→zL
open Go.Lib renaming hid→zH
section
namespace Pa
open Lx
section
variable {M:Int->Int->Int×Int×Int}
theorem gB {s:List UInt8}{ts r:List Tok}{u:Unit}(h:need s ts = .ok u r):r.length+1=ts.length:=by
 unfold need at h
 split at h
 ·rename_i hw
  obtain⟨t,q,rfl⟩:=bW hw
  injection h with _ h
  subst h;rfl
 ·cases h
theorem zi:∀(N:Nat) (j:Job) (ts:List Tok) (n:Tree) (r:List Tok),nd j ts.length<=N->rd M j ts = .ok n r->match j with
  | .loop _ _ m=>n.siz+r.length<=m.siz+ts.length
  | _=>n.siz+r.length<=ts.length:=by
 intro N
 induction N with
 | zero=>intro j ts n r h;have:=vM j ts.length;omega
 | succ N ih =>
  intro j ts n r hN h
  rw[fK] at h
  cases j with
  | ex =>
   simp only[step] at h
   by_cases hw:isW kIf ts=true
   ·rw[if_pos hw] at h
    obtain⟨t,q,rfl⟩:=bW hw
    rw[List.tail_cons] at h
    obtain⟨a,r1,h1,h⟩:=ai h
    obtain⟨_,r2,h2,h⟩:=ai h
    obtain⟨b,r3,h3,h⟩:=ai h
    obtain⟨_,r4,h4,h⟩:=ai h
    obtain⟨c,r5,h5,h⟩:=ai h
    cases h
    have l2:=gB h2
    have l4:=gB h4
    have s1:=ih .ex q a r1 zaz h1
    simp only at s1
    have s3:=ih .ex r2 b r3 zaz h3
    simp only at s3
    have s5:=ih .ex r4 c _ zaz h5
    simp only at s5
    simp only[Tree.siz,dO,List.length_cons]
    omega
   ·rw[if_neg hw] at h
    exact ih (.row 0) ts n r zca h
  | row l =>
   simp only[step] at h
   by_cases h6:6<=l
   ·rw[if_pos h6] at h
    cases ts with
    | nil=>cases h
    | cons t r0 =>
     simp only[factor] at h
     by_cases h2:t.k=2
     ·simp only[h2,if_true] at h
      cases hu:which units r0 with
      | none =>
       rw[hu] at h
       cases h
       simp only[Tree.siz,dO,List.length_cons];omega
      | some u =>
       rw[hu] at h
       obtain⟨t2,r2,rfl⟩:=cZ hu
       simp only[] at h
       by_cases hu2:u=2
       ·simp only[hu2,if_true] at h
        split at h
        ·cases h;simp only[Tree.siz,dO,List.length_cons,List.tail_cons];omega
        ·cases h
       ·simp only[hu2,if_false] at h
        cases h;simp only[Tree.siz,dO,List.length_cons,List.tail_cons];omega
     ·simp only[h2,if_false] at h
      split at h
      ·cases h;simp only[Tree.siz,dO,List.length_cons];omega
      ·split at h
       ·cases h;simp only[Tree.siz,dO,List.length_cons];omega
       ·split at h
        ·obtain⟨a,r1,h1,h⟩:=ai h
         obtain⟨_,r2,h3,h⟩:=ai h
         cases h
         have e:=ih .ex r0 _ r1 zaz h1
         simp only at e
         have:=gB h3
         simp only[List.length_cons];omega
        ·split at h
         ·cases h
         ·obtain⟨_,r1,g1,h⟩:=ai h
          obtain⟨a,r2,g2,h⟩:=ai h
          obtain⟨_,r3,g3,h⟩:=ai h
          obtain⟨b,r4,g4,h⟩:=ai h
          obtain⟨_,r5,g5,h⟩:=ai h
          cases h
          have l1:=gB g1
          have l3:=gB g3
          have l5:=gB g5
          have s2:=ih .ex r1 a r2 zaz g2
          simp only at s2
          have s4:=ih .ex r3 b r4 zaz g4
          simp only at s4
          simp only[Tree.siz,dO,List.length_cons]
          omega
   ·rw[if_neg h6] at h
    by_cases h2:l=2
    ·rw[if_pos h2] at h
     split at h
     ·rename_i hw
      obtain⟨t,q,rfl⟩:=bW hw
      rw[List.tail_cons] at h
      obtain⟨a,r1,h1,h⟩:=ai h
      cases h
      have s1:=ih (.row 2) q a _ zaz h1
      simp only at s1
      simp only[Tree.siz,dO,List.length_cons];omega
     ·exact ih (.row 3) ts n r zca h
    ·rw[if_neg h2] at h
     obtain⟨a,r1,h1,h⟩:=ai h
     have e:=ih (.row (l+1)) ts a r1 zca h1
     simp only at e
     have g1:=aX (M:=M) (.row (l+1)) ts
     rw[h1] at g1
     have l1:=g1.len.2 rfl
     have e2:=ih (.loop l ts.length a) r1 n r zca h
     simp only at e2 |-
     omega
  | loop l pl m =>
   simp only[step] at h
   cases hk:which (signs l) ts with
   | none=>rw[hk] at h;cases h;exact Nat.le_refl _
   | some i =>
    rw[hk] at h
    obtain⟨t,r0,rfl⟩:=cZ hk
    obtain⟨a,r1,h1,h⟩:=ai h
    rw[List.tail_cons] at h1
    have e:=ih (.row (l+1)) r0 a r1 zaz h1
    simp only at e
    have g1:=aX (M:=M) (.row (l+1)) r0
    rw[h1] at g1
    have l1:=g1.len.2 rfl
    split at h
    ·cases h
     have hs:dO (if 3<i then [a,m] else [m,a])=a.siz+m.siz:=by
      split
      ·simp only[dO];omega
      ·simp only[dO];omega
     simp only[Tree.siz,hs,List.length_cons]
     omega
    ·have e2:=ih (.loop l pl _) r1 n r zaz h
     simp only[Tree.siz,dO,List.length_cons] at e2 |-
     omega
theorem qO {ts r:List Tok}{n:Tree}(h:rd M .ex ts = .ok n r):n.siz<=ts.length:=by
 have:=zi _ .ex ts n r (Nat.le_refl _) h
 simp only at this
 omega
end
def bJ (M:Int->Int->Int×Int×Int)(ts:List Tok):Out Tree:=(rd M .ex ts).bind fun n r=>if r.length≠0 then bad r else if big n then .er 2 n.pl r.length else .ok n r
end Pa
end
end Go.Proofs.YtnjfolljbfkojaaGreatDoor
namespace Go.Proofs.YtnjfolljbfkojaaGreatDoor
open Go.Value renaming int→zI
open Go.IntKind renaming i64→zL
open Go.Lib renaming hid→zH
open Go.RowKit Lx Pa
theorem BJ (l:List Tree)(i:Nat):gJ (l.take i)<=gJ l:=by
 induction l generalizing i with
 | nil=>simp
 | cons k ks ih =>
  cases i with
  | zero=>simp[gJ]
  | succ i=>have:=ih i;simp only[List.take_succ_cons,gJ];omega
theorem kX (N:Nat):∀(t:Tree),t.siz<=N->t.siz<=1000000->∀(A:Nat->Prop) (ofs:Nat->Int) (x:NV) (w:World),NodeA w A ofs t x->Calls Tryz.prog 29 #[nv x] w fun e w'=>e = .returned (zI zL (t.dep:Nat))/\RowKit.Below w.heap.size w w':=by
 induction N with
 | zero=>intro t h;cases t;simp[Tree.siz] at h
 | succ N ih =>
  intro t hN hm A ofs x w hx
  obtain⟨op,pl,nm,n0,d0,u0,ks⟩:=t
  simp only[Tree.siz,Tree.dep] at hN hm |-
  have hkl:=iH ks
  have hdl:=jM ks
  have KM:=zH (fun (i:Nat) (hi:i<ks.length)=>ih ks[i] zbg zbg A ofs)
  clear ih
  obtain⟨xo,xa,xs,xn,xd,xf,xm,xr,xy,xq,xk,xc⟩:=x
  have hx2:=hx
  unfold NodeA at hx2
  obtain⟨⟨-,-,-,-,-,-,-,-,-,hkk⟩,bq,off,hp,hK⟩:=hx2
  simp only at hkk hp
  subst hkk
  unfold nv
  obtain⟨W1,hW1⟩:∃W1,W1=w.alloc (.cells #[zI zL xo,zI zL xa,.string xs,zI zL xn,zI zL xd,.bool xf,zI zL xm,zI zL xr,zI zL xy,.slice xq ks.length xc] 36):=⟨_,rfl⟩
  have HB:Hid (RowKit.Below w.heap.size w W1/\W1.cell? ⟨w.heap.size,9,none⟩=some (.slice xq ks.length xc)):=by rw[hW1];exact⟨(Below.refl _ _).alloc (Nat.le_refl _) _,by simp⟩
  have HK:=zH hK
  have HP:=zH hp
  clear hx hK hp
  go_enter Tryz.func29,Tryz.ntmps29
  go_wp2_with fail
  rw[<-hW1]
  have hsz:W1.heap.size=w.heap.size+1:=by rw[hW1];simp
  clear hW1
  go_loopg [3,4] ks.length (fun g v3 v4 wr=>∃i:Nat,i<=ks.length/\ks.length-i<=g/\v3 = zI zL (gJ (ks.take i):Nat)/\v4 = zI zL i/\Hid (RowKit.Below W1.heap.size W1 wr))
  case atStart=>exact⟨0,Nat.zero_le _,zac,by simp[gJ],by simp,Below.refl _ _⟩
  case round =>
   obtain⟨i,hi,hg,rfl,rfl,HW⟩:=hrel
   have q9:wr.cell? ⟨w.heap.size,9,none⟩=some (.slice xq ks.length xc):=(HW.out.cell (p:=⟨w.heap.size,9,none⟩) (by show w.heap.size<W1.heap.size;omega)).trans HB.out.2
   have HW2:=zH (HB.out.1.trans (HW.out.mono zac))
   by_cases hlt:i<ks.length
   ·have hz:(i:Int)<(ks.length:Int):=by omega
    have hq:=(HP.out zac).1
    have hbq:=(HP.out zac).2.2
    subst hq
    obtain⟨⟨yo,ya,ys,yn,yd,yf,ym,yr,yy,yq,yk,yc⟩,hc,hn⟩:=dQ ks off i hlt (bQ.keep HW2.out.size (fun j _ hj=>HW2.out.block j hj) (fun _ h _=>h) bq (HP.out zac).2.1 hbq off ks HK.out)
    have z0:=hc 0 _ rfl
    have z1:=hc 1 _ rfl
    have z2:=hc 2 _ rfl
    have z3:=hc 3 _ rfl
    have z4:=hc 4 _ rfl
    have z5:=hc 5 _ rfl
    have z6:=hc 6 _ rfl
    have z7:=hc 7 _ rfl
    have z8:=hc 8 _ rfl
    have z9:=hc 9 _ rfl
    rw[Nat.add_zero] at z0
    have e2:IntKind.i64.wrap ((i:Int)+1)=((i+1:Nat):Int):=zal
    have E3:Hid (gJ (ks.take (i+1))=max (gJ (ks.take i)) ks[i].dep):=jY ks i hlt
    have KQ:=zH (KM.out i hlt _ _ hn)
    clear hc hn
    generalize ks[i].dep=di at *
    go_wp2_with fail
    clear z0 z1 z2 z3 z4 z5 z6 z7 z8 z9 q9
    refine KQ.out.mono ?_
    rintro _ v ⟨rfl,hb⟩
    have HW3:=zH (HW.out.trans (hb.mono HW.out.size))
    clear hb HW2 KQ
    go_wp2_with fail
    all_goals
     go_roundg (ks.length-(i+1))
     case measure=>omega
     case rel=>exact⟨i+1,zac,Nat.le_refl _,by rw[E3.out];congr 1;omega,by simp,HW3⟩
   ·have hz:¬(i:Int)<(ks.length:Int):=by omega
    have hie:i=ks.length:=zac
    subst hie
    rw[List.take_length]
    have e2:IntKind.i64.wrap ((gJ ks:Int)+1)=((gJ ks+1:Nat):Int):=zal
    go_wp2_with fail
    exact bodyPost_ret (v:= zI zL (gJ ks+1:Nat)) (by simp[results,Tryz.results29,go_sem]) rfl ⟨rfl,HW2.out⟩
def NdZ (s d deep most:Nat)(z:Int):Prop:=-1<=z/\z<=most/\(d<=deep/\s<=most->z=(most:Int)-s)/\(¬(d<=deep/\s<=most)->z<0)
theorem rQ (N:Nat):∀(t:Tree),t.siz<=N->t.siz<=1000000->∀(deep most:Nat),deep<=100->most<=400->∀(A:Nat->Prop) (ofs:Nat->Int) (x:NV) (w:World),NodeA w A ofs t x->Calls Tryz.prog 52 #[nv x,zI zL deep,zI zL most] w fun e w'=>(∃z:Int,e = .returned (zI zL z)/\NdZ t.siz t.dep deep most z)/\RowKit.Below w.heap.size w w':=by
 induction N with
 | zero=>intro t h;cases t;simp[Tree.siz] at h
 | succ N ih =>
  intro t hN hm deep most hde hmo A ofs x w hx
  obtain⟨op,pl,nm,n0,d0,u0,ks⟩:=t
  simp only[Tree.siz,Tree.dep] at hN hm |-
  have hkl:=iH ks
  have hdl:=jM ks
  have KM:=zH (fun (i:Nat) (hi:i<ks.length) (dp ms:Nat) h1 h2=>ih ks[i] zbg zbg dp ms h1 h2 A ofs)
  clear ih
  obtain⟨xo,xa,xs,xn,xd,xf,xm,xr,xy,xq,xk,xc⟩:=x
  have hx2:=hx
  unfold NodeA at hx2
  obtain⟨⟨-,-,-,-,-,-,-,-,-,hkk⟩,bq,off,hp,hK⟩:=hx2
  simp only at hkk hp
  subst hkk
  unfold nv
  obtain⟨W1,hW1⟩:∃W1,W1=w.alloc (.cells #[zI zL xo,zI zL xa,.string xs,zI zL xn,zI zL xd,.bool xf,zI zL xm,zI zL xr,zI zL xy,.slice xq ks.length xc] 36):=⟨_,rfl⟩
  have HB:Hid (RowKit.Below w.heap.size w W1/\W1.cell? ⟨w.heap.size,9,none⟩=some (.slice xq ks.length xc)):=by rw[hW1];exact⟨(Below.refl _ _).alloc (Nat.le_refl _) _,by simp⟩
  have HK:=zH hK
  have HP:=zH hp
  have e0:IntKind.i64.wrap ((most:Int)-1)=(most:Int)-1:=zbo
  have e1:IntKind.i64.wrap ((deep:Int)-1)=(deep:Int)-1:=zbo
  clear hx hK hp
  by_cases hd0:deep=0
  ·subst hd0
   go_enter Tryz.func52,Tryz.ntmps52
   go_wp2_with fail
   rw[<-hW1]
   exact bodyPost_ret (v:= zI zL (-1)) zdc rfl ⟨⟨-1,rfl,zac,zac,zac,zac⟩,HB.out.1⟩
  have hd1:¬(deep:Int)<1:=zac
  go_enter Tryz.func52,Tryz.ntmps52
  go_wp2_with fail
  rw[<-hW1]
  have hsz:W1.heap.size=w.heap.size+1:=by rw[hW1];simp
  clear hW1
  go_loopg [2,7] ks.length (fun g v2 v7 wr=>∃(i:Nat) (m:Int),i<=ks.length/\ks.length-i<=g/\v2 = zI zL m/\v7 = zI zL i/\Hid (NdZ (dO (ks.take i)+1) (gJ (ks.take i)+1) deep most m)/\Hid (RowKit.Below W1.heap.size W1 wr))
  case atStart=>exact⟨0,(most:Int)-1,Nat.zero_le _,zac,rfl,by simp,⟨zac,zac,by simp only[List.take_zero,dO,gJ];omega,by simp only[List.take_zero,dO,gJ];omega⟩,Below.refl _ _⟩
  case round =>
   obtain⟨i,m,hi,hg,rfl,rfl,HZ,HW⟩:=hrel
   have q9:wr.cell? ⟨w.heap.size,9,none⟩=some (.slice xq ks.length xc):=(HW.out.cell (p:=⟨w.heap.size,9,none⟩) (by show w.heap.size<W1.heap.size;omega)).trans HB.out.2
   have HW2:=zH (HB.out.1.trans (HW.out.mono zac))
   by_cases hm0:m<0
   ·have hm1:¬(0:Int)<=m:=by omega
    have hend:NdZ (dO ks+1) (gJ ks+1) deep most m:=by
     obtain⟨a1,a2,a3,a4⟩:=HZ.out
     have b1:=jL ks i
     have b2:=BJ ks i
     exact⟨a1,a2,fun h=>absurd (a3 ⟨zac,zac⟩) zac,fun _=>hm0⟩
    have HE:=zH hend
    clear hend HZ
    by_cases hlt:i<ks.length
    ·have hz:(i:Int)<(ks.length:Int):=by omega
     go_wp2_with fail
     exact bodyPost_ret (v:= zI zL m) zdc rfl ⟨⟨m,rfl,HE.out⟩,HW2.out⟩
    ·have hz:¬(i:Int)<(ks.length:Int):=by omega
     go_wp2_with fail
     exact bodyPost_ret (v:= zI zL m) zdc rfl ⟨⟨m,rfl,HE.out⟩,HW2.out⟩
   ·obtain⟨m,rfl⟩:∃k:Nat,m=(k:Int):=⟨m.toNat,zac⟩
    have hm1:(0:Int)<=(m:Int):=zac
    have hmm:m<=400:=by have:=HZ.out.2.1;omega
    by_cases hlt:i<ks.length
    ·have hz:(i:Int)<(ks.length:Int):=by omega
     have hq:=(HP.out zac).1
     have hbq:=(HP.out zac).2.2
     subst hq
     obtain⟨⟨yo,ya,ys,yn,yd,yf,ym,yr,yy,yq,yk,yc⟩,hc,hn⟩:=dQ ks off i hlt (bQ.keep HW2.out.size (fun j _ hj=>HW2.out.block j hj) (fun _ h _=>h) bq (HP.out zac).2.1 hbq off ks HK.out)
     have z0:=hc 0 _ rfl
     have z1:=hc 1 _ rfl
     have z2:=hc 2 _ rfl
     have z3:=hc 3 _ rfl
     have z4:=hc 4 _ rfl
     have z5:=hc 5 _ rfl
     have z6:=hc 6 _ rfl
     have z7:=hc 7 _ rfl
     have z8:=hc 8 _ rfl
     have z9:=hc 9 _ rfl
     rw[Nat.add_zero] at z0
     have e2:IntKind.i64.wrap ((i:Int)+1)=((i+1:Nat):Int):=zal
     have E3:Hid (∀z,NdZ ks[i].siz ks[i].dep (deep-1) m z->NdZ (dO (ks.take (i+1))+1) (gJ (ks.take (i+1))+1) deep most z):=fun z hz=>by
      obtain⟨a1,a2,a3,a4⟩:=HZ.out
      obtain⟨b1,b2,b3,b4⟩:=hz
      rw[fU ks i hlt,jY ks i hlt]
      have hc:gJ (ks.take i)+1<=deep/\dO (ks.take i)+1<=most:=by
       by_cases hh:gJ (ks.take i)+1<=deep/\dO (ks.take i)+1<=most
       ·exact hh
       ·have:=a4 hh;omega
      have hmv:=a3 hc
      by_cases hh:ks[i].dep<=deep-1/\ks[i].siz<=m
      ·have:=b3 hh
       exact⟨b1,zac,fun _=> zac,fun h=>absurd ⟨zac,zac⟩ h⟩
      ·have:=b4 hh
       exact⟨b1,zac,fun h=>absurd ⟨zac,zac⟩ hh,fun _=>this⟩
     have KQ:=zH (KM.out i hlt (deep-1) m zac hmm _ _ hn)
     rw[show(((deep-1:Nat)):Int)=(deep:Int)-1 by omega] at KQ
     clear hc hn HZ
     generalize ks[i].dep=di at *
     generalize ks[i].siz=si at *
     go_wp2_with fail
     clear z0 z1 z2 z3 z4 z5 z6 z7 z8 z9 q9
     refine KQ.out.mono ?_
     rintro _ v ⟨⟨z,rfl,hz2⟩,hb⟩
     have HW3:=zH (HW.out.trans (hb.mono HW.out.size))
     have HZ2:=zH (E3.out z hz2)
     clear hb HW2 KQ hz2
     go_wp2_with fail
     go_roundg (ks.length-(i+1))
     case measure=>omega
     case rel=>exact⟨i+1,z,zac,Nat.le_refl _,rfl,by simp,HZ2,HW3⟩
    ·have hz:¬(i:Int)<(ks.length:Int):=by omega
     have hie:i=ks.length:=zac
     subst hie
     rw[List.take_length] at HZ
     go_wp2_with fail
     exact bodyPost_ret (v:= zI zL m) zdc rfl ⟨⟨m,rfl,HZ.out⟩,HW2.out⟩
theorem nS (t:Tree)(hm:t.siz<=1000000)(A:Nat->Prop)(ofs:Nat->Int)(x:NV)(w:World)(hx:NodeA w A ofs t x):Calls Tryz.prog 28 #[nv x] w fun e w'=>e = .returned (zI zL (if t.dep<=100/\t.siz<=400 then t.siz else 1000:Nat))/\RowKit.Below w.heap.size w w':=by
 have KN:=zH (fun w hx=>rQ _ t (Nat.le_refl _) hm 100 400 (Nat.le_refl _) (Nat.le_refl _) A ofs x w hx)
 obtain⟨S,hS⟩:∃S:Nat,S=(if t.dep<=100/\t.siz<=400 then t.siz else 1000):=⟨_,rfl⟩
 rw[<-hS]
 obtain⟨xo,xa,xs,xn,xd,xf,xm,xr,xy,xq,xk,xc⟩:=x
 unfold nv at KN |-
 have bl:=(Below.refl w.heap.size w).alloc (Nat.le_refl _) (.cells #[zI zL xo,zI zL xa,.string xs,zI zL xn,zI zL xd,.bool xf,zI zL xm,zI zL xr,zI zL xy,.slice xq xk xc] 36)
 have HB:=zH bl
 have HX:=zH (NodeA.bel bl _ _ hx)
 clear bl hx
 go_enter Tryz.func28,Tryz.ntmps28
 go_wp2_with fail
 refine(KN.out _ HX.out).mono ?_
 rintro _ v ⟨⟨z,rfl,hz⟩,hb⟩
 have HB2:=zH (HB.out.trans (hb.mono HB.out.size))
 clear hb HB HX KN
 obtain⟨a1,a2,a3,a4⟩:=hz
 by_cases hc:t.dep<=100/\t.siz<=400
 ·rw[if_pos hc] at hS
  subst hS
  have hz:=a3 hc
  clear a3 a4
  have h1:¬z<0:=zac
  have h2:IntKind.i64.wrap (400-z)=(t.siz:Nat):=zcd
  clear hz
  go_wp2_with fail
  exact bodyPost_ret (v:= zI zL (t.siz:Nat)) (by simp[results,Tryz.results28,go_sem]) rfl ⟨rfl,HB2.out⟩
 ·rw[if_neg hc] at hS
  subst hS
  have h1:=a4 hc
  clear a3 a4
  go_wp2_with fail
  exact bodyPost_ret (v:= zI zL 1000) (by simp[results,Tryz.results28,go_sem]) rfl ⟨rfl,HB2.out⟩
end Go.Proofs.YtnjfolljbfkojaaGreatDoor
