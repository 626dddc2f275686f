import Derived.Test.YtnjfolljbfkojaaGreatDoorMAQ
set_option maxRecDepth 100000
set_option maxHeartbeats 20000000
namespace Go.Proofs.YtnjfolljbfkojaaGreatDoor
open Go.Value renaming int→zI
open Go.IntKind renaming i64→zL
open Go.Lib renaming hid→zH
open Go.RowKit Lx Pa
section
variable {b cap qb En mb k:Nat} {p:Option Addr} {ts:List Tok}
theorem Cn (o:Out Tree)(w:World)(h:Rd w b p cap qb ts En mb k)(h2:(pk ts En k).k=2)(HK:∀w,Rd w b p cap qb ts En mb k->Calls Tryz.prog 144 #[.pointer (some ⟨b,0,none⟩)] w fun e w'=>ak w b p cap qb ts En mb (vX w.heap.size (ag ts En)) o e w') :
  Calls Tryz.prog 138 #[.pointer (some ⟨b,0,none⟩)] w fun e w'=>ak w b p cap qb ts En mb (vX w.heap.size (ag ts En)) o e w':=by
 have KR:=zH HK
 clear HK
 have KP:=zH (fun w h=>aC (b:=b) (cap:=cap) (qb:=qb) (En:=En) (mb:=mb) (k:=k) (p:=p) (ts:=ts) w h)
 have HAO:Hid ((pk ts En k).a=ag ts En (ts.length-k)):=bF h.kl
 have S0:=zH ((Sx.start h).alloc (.cells #[zI zL 0,zI zL 0,.string ⟨#[]⟩,zI zL 0,zI zL 0,.bool false,zI zL 0,zI zL 0,zI zL 0,.slice none 0 0] 36))
 have R0:=zH (B10.new w (zI zL 0) (zI zL 0) (.string ⟨#[]⟩) (zI zL 0) (zI zL 0) (.bool false) (zI zL 0) (zI zL 0) (zI zL 0) (.slice none 0 0) 36)
 have NB:w.heap.size≠b:=zbd
 have B0:(w.alloc (.cells #[zI zL 0,zI zL 0,.string ⟨#[]⟩,zI zL 0,zI zL 0,.bool false,zI zL 0,zI zL 0,zI zL 0,.slice none 0 0] 36)).heap.size=w.heap.size+1:=by simp
 clear h
 generalize pk ts En k=t at *
 obtain⟨tk,ta,tt,tn,td⟩:=t
 unfold fI at KP
 obtain rfl:tk=2:=h2
 go_enter Tryz.func138,Tryz.ntmps138
 go_wp2_with fail
 change Calls _ _ _ (w.alloc (.cells #[zI zL 0,zI zL 0,.string ⟨#[]⟩,zI zL 0,zI zL 0,.bool false,zI zL 0,zI zL 0,zI zL 0,.slice none 0 0] 36)) _
 generalize w.alloc (.cells #[zI zL 0,zI zL 0,.string ⟨#[]⟩,zI zL 0,zI zL 0,.bool false,zI zL 0,zI zL 0,zI zL 0,.slice none 0 0] 36)=V at *
 refine(KP.out _ S0.out.rd).mono ?_
 rintro _ v ⟨rfl,hb⟩
 have S1:=zH ((S0.out.bel hb).alloc (.cells #[zI zL 2,zI zL ta,.string (bs tt),zI zL tn,zI zL td] 86))
 have R1:=zH ((R0.out.bel hb).bel ((Below.refl _ _).alloc (Nat.le_refl _) (.cells #[zI zL 2,zI zL ta,.string (bs tt),zI zL tn,zI zL td] 86)))
 have X1:=zH (B5.new v (zI zL 2) (zI zL ta) (.string (bs tt)) (zI zL tn) (zI zL td) 86)
 have hv:=hb.size
 have NB1:v.heap.size≠b:=zam
 have hv1:(v.alloc (.cells #[zI zL 2,zI zL ta,.string (bs tt),zI zL tn,zI zL td] 86)).heap.size=v.heap.size+1:=by simp
 clear hb S0 R0 KP
 obtain⟨x0,x1,x2,x3,x4,-,-,-,-,-⟩:=X1.out
 go_wp2_with fail
 clear x0 x1 x2 x3 x4
 change Calls _ _ _ (v.alloc (.cells #[zI zL 2,zI zL ta,.string (bs tt),zI zL tn,zI zL td] 86)) _
 generalize v.alloc (.cells #[zI zL 2,zI zL ta,.string (bs tt),zI zL tn,zI zL td] 86)=V1 at *
 refine(KR.out _ S1.out.rd).mono ?_
 cases o with
 | er E q m =>
  rintro _ v2 ⟨k',rfl,hkp,hrd,hm⟩
  have S2:=zH (S1.out.call hkp hrd)
  go_wp2_with fail
  exact aa rfl (ak.er rfl rfl hm S2.out)
 | ok t r =>
  rintro _ v2 ⟨_,k',rfl,⟨⟨xo,xa,xs,xn,xd,xf,xm,xr,xy,xq,xk,xc⟩,rfl,hx⟩,hkp,hrd,rfl⟩
  have S2:=zH (S1.out.call hkp hrd)
  have R2:=zH (R1.out.call hkp NB)
  have HN:=zH hx
  clear hkp hrd hx
  unfold nv
  obtain⟨r0,r1,r2,r3,r4,r5,r6,r7,r8,r9,q0,q1,q2,q3,q4,q5,q6,q7,q8,q9⟩:=R2.out
  go_wp2_with fail
  refine(?_:∀F:World,B10 F w.heap.size (zI zL xo) (zI zL xa) (.string xs) (zI zL xn) (zI zL xd) (.bool xf) (zI zL xm) (zI zL xr) (zI zL xy) (.slice xq xk xc)->Sx w F b p cap qb ts En mb k'->Kfr V1.heap.size v2 F->bodyPost _ _ _ _ _ F) _ (R2.out.put _ _ _ _ _ _ _ _ _ _) ?_ ?_
  ·exact zz75
  ·exact Ac
  ·exact(((((((((((Kfr.refl V1.heap.size _).set zac 0 none _).set zac 1 none _).set zac 2 none _).set zac 3 none _).set zac 4 none _).set zac 5 none _).set zac 6 none _).set zac 7 none _).set zac 8 none _).set zac 9 none _)
theorem Ej (w:World)(h:Rd w b p cap qb ts En mb k)(h2:(pk ts En k).k≠2)(hp:isW sLp (ts.drop k)=true)(HX:∀(k':Nat) (w:World),Rd w b p cap qb ts En mb k'->ts.length-k'<ts.length-k->Calls Tryz.prog 48 #[.pointer (some ⟨b,0,none⟩)] w fun e w'=>ak w b p cap qb ts En mb (vX w.heap.size (ag ts En)) (rd M0 .ex (ts.drop k')) e w') :
  Calls Tryz.prog 138 #[.pointer (some ⟨b,0,none⟩)] w fun e w'=>ak w b p cap qb ts En mb (vX w.heap.size (ag ts En)) ((rd M0 .ex (ts.drop (k+1))).bind fun n r=>(need sRp r).bind fun _ r=> .ok n r) e w':=by
 have hlt:k<ts.length:=by
  rcases Nat.lt_or_ge k ts.length with z|z
  ·exact z
  ·rw[List.drop_eq_nil_of_le z] at hp;cases hp
 have e1:((pk ts En k).k==2)=false:=zcw
 have KB:=zH (fun w h=>aA (b:=b) (cap:=cap) (qb:=qb) (En:=En) (mb:=mb) (k:=k) (p:=p) (ts:=ts) sLp zah w h)
 rw[hp,if_pos rfl] at KB
 have KX:=zH HX
 clear HX hp h2
 generalize hO:((rd M0 .ex (ts.drop (k+1))).bind fun n r=>(need sRp r).bind fun _ r=> .ok n r)=O
 have HO:=zH hO
 clear hO
 have KP:=zH (fun w h=>aC (b:=b) (cap:=cap) (qb:=qb) (En:=En) (mb:=mb) (k:=k) (p:=p) (ts:=ts) w h)
 have HAO:Hid ((pk ts En k).a=ag ts En (ts.length-k)):=bF h.kl
 have S0:=zH ((Sx.start h).alloc (.cells #[zI zL 0,zI zL 0,.string ⟨#[]⟩,zI zL 0,zI zL 0,.bool false,zI zL 0,zI zL 0,zI zL 0,.slice none 0 0] 36))
 have R0:=zH (B10.new w (zI zL 0) (zI zL 0) (.string ⟨#[]⟩) (zI zL 0) (zI zL 0) (.bool false) (zI zL 0) (zI zL 0) (zI zL 0) (.slice none 0 0) 36)
 have NB:w.heap.size≠b:=zbd
 have B0:(w.alloc (.cells #[zI zL 0,zI zL 0,.string ⟨#[]⟩,zI zL 0,zI zL 0,.bool false,zI zL 0,zI zL 0,zI zL 0,.slice none 0 0] 36)).heap.size=w.heap.size+1:=by simp
 clear h
 generalize pk ts En k=t at *
 obtain⟨tk,ta,tt,tn,td⟩:=t
 unfold fI at KP
 simp only at e1
 go_enter Tryz.func138,Tryz.ntmps138
 go_wp2_with fail
 change Calls _ _ _ (w.alloc (.cells #[zI zL 0,zI zL 0,.string ⟨#[]⟩,zI zL 0,zI zL 0,.bool false,zI zL 0,zI zL 0,zI zL 0,.slice none 0 0] 36)) _
 generalize w.alloc (.cells #[zI zL 0,zI zL 0,.string ⟨#[]⟩,zI zL 0,zI zL 0,.bool false,zI zL 0,zI zL 0,zI zL 0,.slice none 0 0] 36)=V at *
 refine(KP.out _ S0.out.rd).mono ?_
 rintro _ v ⟨rfl,hb⟩
 have S1:=zH ((S0.out.bel hb).alloc (.cells #[zI zL tk,zI zL ta,.string (bs tt),zI zL tn,zI zL td] 86))
 have R1:=zH ((R0.out.bel hb).bel ((Below.refl _ _).alloc (Nat.le_refl _) (.cells #[zI zL tk,zI zL ta,.string (bs tt),zI zL tn,zI zL td] 86)))
 have X1:=zH (B5.new v (zI zL tk) (zI zL ta) (.string (bs tt)) (zI zL tn) (zI zL td) 86)
 have hv:=hb.size
 have NB1:v.heap.size≠b:=zam
 have hv1:(v.alloc (.cells #[zI zL tk,zI zL ta,.string (bs tt),zI zL tn,zI zL td] 86)).heap.size=v.heap.size+1:=by simp
 clear hb S0 R0 KP
 obtain⟨x0,x1,x2,x3,x4,-,-,-,-,-⟩:=X1.out
 go_wp2_with fail
 clear x0 x1 x2 x3 x4
 change Calls _ _ _ (v.alloc (.cells #[zI zL tk,zI zL ta,.string (bs tt),zI zL tn,zI zL td] 86)) _
 generalize v.alloc (.cells #[zI zL tk,zI zL ta,.string (bs tt),zI zL tn,zI zL td] 86)=V1 at *
 refine(KB.out _ S1.out.rd).mono ?_
 rintro _ v2 ⟨rfl,hkp,hrd⟩
 have S2:=zH (S1.out.call hkp hrd)
 have R2:=zH (R1.out.call hkp NB)
 have hsz_v2:=hkp.size
 clear hkp hrd
 clear S1 R1 X1 KB
 go_wp2_with fail
 have KS:=zH (KX.out (k+1) v2 S2.out.rd zac)
 generalize rd M0 .ex (ts.drop (k+1))=oo at KS HO
 refine KS.out.mono ?_
 cases oo with
 | er E q m =>
  rintro _ v3 ⟨k',rfl,hkp,hrd,hm⟩
  exact Al
 | ok a r =>
  rintro _ v3 ⟨_,k1,rfl,⟨⟨xo,xa,xs,xn,xd,xf,xm,xr,xy,xq,xk,xc⟩,rfl,hx⟩,hkp,hrd,rfl⟩
  have S3:=zH (S2.out.call hkp hrd)
  have R3:=zH (R2.out.call hkp NB)
  have HN:=zH (hx)
  have hsz_v3:=hkp.size
  have HO2:=HO.out
  rw[bind_ok] at HO2
  replace HO:=zH HO2
  clear HO2 hkp hrd KS
  clear hx S2 R2
  unfold nv
  have bl:=(Below.refl v3.heap.size v3).alloc (Nat.le_refl _) (.cells #[zI zL xo,zI zL xa,.string xs,zI zL xn,zI zL xd,.bool xf,zI zL xm,zI zL xr,zI zL xy,.slice xq xk xc] 36)
  have S4:=zH (S3.out.bel bl)
  have R4:=zH (R3.out.bel bl)
  have X4:=zH (B10.new v3 (zI zL xo) (zI zL xa) (.string xs) (zI zL xn) (zI zL xd) (.bool xf) (zI zL xm) (zI zL xr) (zI zL xy) (.slice xq xk xc) 36)
  replace HN:=zH (NodeA.bel bl _ _ HN.out)
  have NB3:v3.heap.size≠b:=by have:=S3.out.kp.size;have:=S3.out.bl;omega
  clear bl S3 R3
  go_wp2_with fail
  change Calls _ _ _ (v3.alloc (.cells #[zI zL xo,zI zL xa,.string xs,zI zL xn,zI zL xd,.bool xf,zI zL xm,zI zL xr,zI zL xy,.slice xq xk xc] 36)) _
  have hv4:(v3.alloc (.cells #[zI zL xo,zI zL xa,.string xs,zI zL xn,zI zL xd,.bool xf,zI zL xm,zI zL xr,zI zL xy,.slice xq xk xc] 36)).heap.size=v3.heap.size+1:=by simp
  generalize v3.alloc (.cells #[zI zL xo,zI zL xa,.string xs,zI zL xn,zI zL xd,.bool xf,zI zL xm,zI zL xr,zI zL xy,.slice xq xk xc] 36)=V4 at *
  have KS:=zH (dm sRp zah _ S4.out.rd)
  generalize need sRp (ts.drop k1)=oo at KS HO
  refine KS.out.mono ?_
  cases oo with
  | er E q m =>
   rintro _ v5 ⟨k',rfl,hkp,hrd,hm⟩
   exact Cb
  | ok a r =>
   rintro _ v5 ⟨_,k2,rfl,rfl,hkp,hrd,rfl⟩
   have S5:=zH (S4.out.call hkp hrd)
   have R5:=zH (R4.out.call hkp NB)
   have X5:=zH (X4.out.call hkp NB3)
   have HM:=zH (NodeA.keep (A':=fun j=>v2.heap.size<=j) hkp.size (fun j (hj:v2.heap.size<=j) hj2=>hkp.block j hj2 (by have:=S4.out.bl;omega)) (fun j hj _=>hj) _ _ HN.out)
   have hsz_v5:=hkp.size
   have HO2:=HO.out
   rw[bind_ok] at HO2
   replace HO:=zH HO2
   clear HO2 hkp hrd KS
   clear S4 R4 X4 HN
   obtain⟨z0,z1,z2,z3,z4,z5,z6,z7,z8,z9,-,-,-,-,-,-,-,-,-,-⟩:=X5.out
   obtain⟨r0,r1,r2,r3,r4,r5,r6,r7,r8,r9,q0,q1,q2,q3,q4,q5,q6,q7,q8,q9⟩:=R5.out
   go_wp2_with fail
   refine(?_:∀F:World,B10 F w.heap.size (zI zL xo) (zI zL xa) (.string xs) (zI zL xn) (zI zL xd) (.bool xf) (zI zL xm) (zI zL xr) (zI zL xy) (.slice xq xk xc)->Sx w F b p cap qb ts En mb k2->Kfr v2.heap.size v5 F->bodyPost _ _ _ _ _ F) _ (R5.out.put _ _ _ _ _ _ _ _ _ _) ?_ ?_
   ·intro F hF hS hK
    obtain⟨y0,y1,y2,y3,y4,y5,y6,y7,y8,y9,-,-,-,-,-,-,-,-,-,-⟩:=hF
    exact bodyPost_ret (v:= .agg #[zI zL xo,zI zL xa,.string xs,zI zL xn,zI zL xd,.bool xf,zI zL xm,zI zL xr,zI zL xy,.slice xq xk xc]) zbs rfl (ak.ok HO.out.symm ⟨⟨xo,xa,xs,xn,xd,xf,xm,xr,xy,xq,xk,xc⟩,rfl,ah.keep hK zac _ _ HM.out⟩ hS)
   ·exact((((((((((S5.out.other (Nat.le_refl _) 0 _).other (Nat.le_refl _) 1 _).other (Nat.le_refl _) 2 _).other (Nat.le_refl _) 3 _).other (Nat.le_refl _) 4 _).other (Nat.le_refl _) 5 _).other (Nat.le_refl _) 6 _).other (Nat.le_refl _) 7 _).other (Nat.le_refl _) 8 _).other (Nat.le_refl _) 9 _)
   ·exact(((((((((((Kfr.refl v2.heap.size _).set zac 0 none _).set zac 1 none _).set zac 2 none _).set zac 3 none _).set zac 4 none _).set zac 5 none _).set zac 6 none _).set zac 7 none _).set zac 8 none _).set zac 9 none _)
theorem zb (w:World)(h:Rd w b p cap qb ts En mb k)(h2:(pk ts En k).k≠2)(hp:isW sLp (ts.drop k)=false)(ht:isW bB (ts.drop k)=true) :
  Calls Tryz.prog 138 #[.pointer (some ⟨b,0,none⟩)] w fun e w'=>ak w b p cap qb ts En mb (vX w.heap.size (ag ts En)) (.ok (.mk 17 (ts.length-k) [] 0 0 1 []) (ts.drop (k+1))) e w':=by
 have e1:((pk ts En k).k==2)=false:=zcw
 have KB:=zH (fun w h=>aA (b:=b) (cap:=cap) (qb:=qb) (En:=En) (mb:=mb) (k:=k) (p:=p) (ts:=ts) sLp zah w h)
 rw[hp,if_neg (by simp)] at KB
 have KT:=zH (fun w h=>aA (b:=b) (cap:=cap) (qb:=qb) (En:=En) (mb:=mb) (k:=k) (p:=p) (ts:=ts) bB zah w h)
 rw[ht,if_pos rfl] at KT
 clear ht
 clear hp h2
 have KP:=zH (fun w h=>aC (b:=b) (cap:=cap) (qb:=qb) (En:=En) (mb:=mb) (k:=k) (p:=p) (ts:=ts) w h)
 have HAO:Hid ((pk ts En k).a=ag ts En (ts.length-k)):=bF h.kl
 have S0:=zH ((Sx.start h).alloc (.cells #[zI zL 0,zI zL 0,.string ⟨#[]⟩,zI zL 0,zI zL 0,.bool false,zI zL 0,zI zL 0,zI zL 0,.slice none 0 0] 36))
 have R0:=zH (B10.new w (zI zL 0) (zI zL 0) (.string ⟨#[]⟩) (zI zL 0) (zI zL 0) (.bool false) (zI zL 0) (zI zL 0) (zI zL 0) (.slice none 0 0) 36)
 have NB:w.heap.size≠b:=zbd
 have B0:(w.alloc (.cells #[zI zL 0,zI zL 0,.string ⟨#[]⟩,zI zL 0,zI zL 0,.bool false,zI zL 0,zI zL 0,zI zL 0,.slice none 0 0] 36)).heap.size=w.heap.size+1:=by simp
 clear h
 generalize pk ts En k=t at *
 obtain⟨tk,ta,tt,tn,td⟩:=t
 unfold fI at KP
 simp only at e1 HAO
 go_enter Tryz.func138,Tryz.ntmps138
 go_wp2_with fail
 change Calls _ _ _ (w.alloc (.cells #[zI zL 0,zI zL 0,.string ⟨#[]⟩,zI zL 0,zI zL 0,.bool false,zI zL 0,zI zL 0,zI zL 0,.slice none 0 0] 36)) _
 generalize w.alloc (.cells #[zI zL 0,zI zL 0,.string ⟨#[]⟩,zI zL 0,zI zL 0,.bool false,zI zL 0,zI zL 0,zI zL 0,.slice none 0 0] 36)=V at *
 refine(KP.out _ S0.out.rd).mono ?_
 rintro _ v ⟨rfl,hb⟩
 have S1:=zH ((S0.out.bel hb).alloc (.cells #[zI zL tk,zI zL ta,.string (bs tt),zI zL tn,zI zL td] 86))
 have R1:=zH ((R0.out.bel hb).bel ((Below.refl _ _).alloc (Nat.le_refl _) (.cells #[zI zL tk,zI zL ta,.string (bs tt),zI zL tn,zI zL td] 86)))
 have X1:=zH (B5.new v (zI zL tk) (zI zL ta) (.string (bs tt)) (zI zL tn) (zI zL td) 86)
 have hv:=hb.size
 have NB1:v.heap.size≠b:=zam
 have hv1:(v.alloc (.cells #[zI zL tk,zI zL ta,.string (bs tt),zI zL tn,zI zL td] 86)).heap.size=v.heap.size+1:=by simp
 clear hb S0 R0 KP
 obtain⟨x0,x1,x2,x3,x4,-,-,-,-,-⟩:=X1.out
 go_wp2_with fail
 clear x0 x1 x2 x3 x4
 change Calls _ _ _ (v.alloc (.cells #[zI zL tk,zI zL ta,.string (bs tt),zI zL tn,zI zL td] 86)) _
 generalize v.alloc (.cells #[zI zL tk,zI zL ta,.string (bs tt),zI zL tn,zI zL td] 86)=V1 at *
 refine(KB.out _ S1.out.rd).mono ?_
 rintro _ v2 ⟨rfl,hkp,hrd⟩
 have S2:=zH (S1.out.call hkp hrd)
 have R2:=zH (R1.out.call hkp NB)
 have X2:=zH (X1.out.call hkp NB1)
 have hsz_v2:=hkp.size
 clear hkp hrd
 clear S1 R1 X1 KB
 go_wp2_with fail
 refine(KT.out _ S2.out.rd).mono ?_
 rintro _ v3 ⟨rfl,hkp,hrd⟩
 have S3:=zH (S2.out.call hkp hrd)
 have R3:=zH (R2.out.call hkp NB)
 have X3:=zH (X2.out.call hkp NB1)
 have hsz_v3:=hkp.size
 clear hkp hrd
 clear S2 R2 X2 KT
 obtain⟨x0,x1,x2,x3,x4,-,-,-,-,-⟩:=X3.out
 obtain⟨r0,r1,r2,r3,r4,r5,r6,r7,r8,r9,q0,q1,q2,q3,q4,q5,q6,q7,q8,q9⟩:=R3.out
 go_wp2_with fail
 refine(?_:∀F:World,B10 F w.heap.size (zI zL 17) (zI zL ta) (.string ⟨#[]⟩) (zI zL 0) (zI zL 0) (.bool false) (zI zL 0) (zI zL 0) (zI zL 0) (.slice none 0 0)->Sx w F b p cap qb ts En mb (k+1)->bodyPost _ _ _ _ _ F) _ (R3.out.put _ _ _ _ _ _ _ _ _ _) ?_
 ·intro F hF hS
  obtain⟨y0,y1,y2,y3,y4,y5,y6,y7,y8,y9,-,-,-,-,-,-,-,-,-,-⟩:=hF
  refine bodyPost_ret (v:= .agg #[zI zL 17,zI zL ta,.string ⟨#[]⟩,zI zL 0,zI zL 0,.bool false,zI zL 0,zI zL 0,zI zL 0,.slice none 0 0]) zbs rfl (ak.ok rfl ⟨⟨17,ta,⟨#[]⟩,0,0,false,0,0,0,none,0,0⟩,rfl,?_⟩ hS)
  rw[HAO.out]
  exact bP F w.heap.size (ag ts En) 17 (ts.length-k) [] 0 0 1
 ·exact zz98
theorem yQ (w:World)(h:Rd w b p cap qb ts En mb k)(h2:(pk ts En k).k≠2)(hp:isW sLp (ts.drop k)=false)(ht:isW bB (ts.drop k)=false)(op:Int)(ho:opAt 6 (pk ts En k).t=some (op,false))(o:Out Tree)(HK:∀w,Rd w b p cap qb ts En mb (k+1)->Calls Tryz.prog 145 #[.pointer (some ⟨b,0,none⟩),zI zL (ag ts En (ts.length-k)),opV 6 op false] w fun e w'=>ak w b p cap qb ts En mb (vX w.heap.size (ag ts En)) o e w') :
  Calls Tryz.prog 138 #[.pointer (some ⟨b,0,none⟩)] w fun e w'=>ak w b p cap qb ts En mb (vX w.heap.size (ag ts En)) (o) e w':=by
 have e1:((pk ts En k).k==2)=false:=zcw
 have KB:=zH (fun w h=>aA (b:=b) (cap:=cap) (qb:=qb) (En:=En) (mb:=mb) (k:=k) (p:=p) (ts:=ts) sLp zah w h)
 rw[hp,if_neg (by simp)] at KB
 have KT:=zH (fun w h=>aA (b:=b) (cap:=cap) (qb:=qb) (En:=En) (mb:=mb) (k:=k) (p:=p) (ts:=ts) bB zah w h)
 rw[ht,if_neg (by simp)] at KT
 have KO:=zH (fun w h=>lQ (b:=b) (cap:=cap) (qb:=qb) (En:=En) (mb:=mb) (k:=k) (p:=p) (ts:=ts) 6 w h zah op false ho)
 have KR:=zH HK
 clear ht ho HK
 clear hp h2
 have KP:=zH (fun w h=>aC (b:=b) (cap:=cap) (qb:=qb) (En:=En) (mb:=mb) (k:=k) (p:=p) (ts:=ts) w h)
 have HAO:Hid ((pk ts En k).a=ag ts En (ts.length-k)):=bF h.kl
 rw[<-HAO.out] at KR
 have S0:=zH ((Sx.start h).alloc (.cells #[zI zL 0,zI zL 0,.string ⟨#[]⟩,zI zL 0,zI zL 0,.bool false,zI zL 0,zI zL 0,zI zL 0,.slice none 0 0] 36))
 have R0:=zH (B10.new w (zI zL 0) (zI zL 0) (.string ⟨#[]⟩) (zI zL 0) (zI zL 0) (.bool false) (zI zL 0) (zI zL 0) (zI zL 0) (.slice none 0 0) 36)
 have NB:w.heap.size≠b:=zbd
 have B0:(w.alloc (.cells #[zI zL 0,zI zL 0,.string ⟨#[]⟩,zI zL 0,zI zL 0,.bool false,zI zL 0,zI zL 0,zI zL 0,.slice none 0 0] 36)).heap.size=w.heap.size+1:=by simp
 clear h
 generalize pk ts En k=t at *
 obtain⟨tk,ta,tt,tn,td⟩:=t
 unfold fI at KP
 simp only at e1 HAO KR
 go_enter Tryz.func138,Tryz.ntmps138
 go_wp2_with fail
 change Calls _ _ _ (w.alloc (.cells #[zI zL 0,zI zL 0,.string ⟨#[]⟩,zI zL 0,zI zL 0,.bool false,zI zL 0,zI zL 0,zI zL 0,.slice none 0 0] 36)) _
 generalize w.alloc (.cells #[zI zL 0,zI zL 0,.string ⟨#[]⟩,zI zL 0,zI zL 0,.bool false,zI zL 0,zI zL 0,zI zL 0,.slice none 0 0] 36)=V at *
 refine(KP.out _ S0.out.rd).mono ?_
 rintro _ v ⟨rfl,hb⟩
 have S1:=zH ((S0.out.bel hb).alloc (.cells #[zI zL tk,zI zL ta,.string (bs tt),zI zL tn,zI zL td] 86))
 have R1:=zH ((R0.out.bel hb).bel ((Below.refl _ _).alloc (Nat.le_refl _) (.cells #[zI zL tk,zI zL ta,.string (bs tt),zI zL tn,zI zL td] 86)))
 have X1:=zH (B5.new v (zI zL tk) (zI zL ta) (.string (bs tt)) (zI zL tn) (zI zL td) 86)
 have hv:=hb.size
 have NB1:v.heap.size≠b:=zam
 have hv1:(v.alloc (.cells #[zI zL tk,zI zL ta,.string (bs tt),zI zL tn,zI zL td] 86)).heap.size=v.heap.size+1:=by simp
 clear hb S0 R0 KP
 obtain⟨x0,x1,x2,x3,x4,-,-,-,-,-⟩:=X1.out
 go_wp2_with fail
 clear x0 x1 x2 x3 x4
 change Calls _ _ _ (v.alloc (.cells #[zI zL tk,zI zL ta,.string (bs tt),zI zL tn,zI zL td] 86)) _
 generalize v.alloc (.cells #[zI zL tk,zI zL ta,.string (bs tt),zI zL tn,zI zL td] 86)=V1 at *
 refine(KB.out _ S1.out.rd).mono ?_
 rintro _ v2 ⟨rfl,hkp,hrd⟩
 have S2:=zH (S1.out.call hkp hrd)
 have R2:=zH (R1.out.call hkp NB)
 have X2:=zH (X1.out.call hkp NB1)
 have hsz_v2:=hkp.size
 clear hkp hrd
 clear S1 R1 X1 KB
 go_wp2_with fail
 refine(KT.out _ S2.out.rd).mono ?_
 rintro _ v3 ⟨rfl,hkp,hrd⟩
 have S3:=zH (S2.out.call hkp hrd)
 have R3:=zH (R2.out.call hkp NB)
 have X3:=zH (X2.out.call hkp NB1)
 have hsz_v3:=hkp.size
 clear hkp hrd
 clear S2 R2 X2 KT
 go_wp2_with fail
 refine(KO.out _ S3.out.rd).mono ?_
 rintro _ v4 ⟨rfl,hkp,hrd⟩
 have S4:=zH (S3.out.call hkp hrd)
 have R4:=zH (R3.out.call hkp NB)
 have X4:=zH (X3.out.call hkp NB1)
 have hsz_v4:=hkp.size
 clear hkp hrd
 clear S3 R3 X3 KO
 have bl:=(Below.refl v4.heap.size v4).alloc (Nat.le_refl _) (.cells #[zI zL 6,zI zL op,.bool false] 108)
 have S5:=zH (S4.out.bel bl)
 have R5:=zH (R4.out.bel bl)
 have X5:=zH (X4.out.bel bl)
 have hv5:(v4.alloc (.cells #[zI zL 6,zI zL op,.bool false] 108)).heap.size=v4.heap.size+1:=by simp
 unfold opV at KR |-
 obtain⟨x0,x1,x2,x3,x4,-,-,-,-,-⟩:=X5.out
 clear bl S4 R4 X4
 go_wp2_with fail
 clear x0 x1 x2 x3 x4
 change Calls _ _ _ (v4.alloc (.cells #[zI zL 6,zI zL op,.bool false] 108)) _
 generalize v4.alloc (.cells #[zI zL 6,zI zL op,.bool false] 108)=V5 at *
 refine(KR.out _ S5.out.rd).mono ?_
 cases o with
 | er E q m =>
  rintro _ v2 ⟨k',rfl,hkp,hrd,hm⟩
  have S2:=zH (S5.out.call hkp hrd)
  go_wp2_with fail
  exact aa rfl (ak.er rfl rfl hm S2.out)
 | ok t r =>
  rintro _ v2 ⟨_,k',rfl,⟨⟨xo,xa,xs,xn,xd,xf,xm,xr,xy,xq,xk,xc⟩,rfl,hx⟩,hkp,hrd,rfl⟩
  have S2:=zH (S5.out.call hkp hrd)
  have R2:=zH (R5.out.call hkp NB)
  have HN:=zH hx
  clear hkp hrd hx
  unfold nv
  obtain⟨r0,r1,r2,r3,r4,r5,r6,r7,r8,r9,q0,q1,q2,q3,q4,q5,q6,q7,q8,q9⟩:=R2.out
  go_wp2_with fail
  refine(?_:∀F:World,B10 F w.heap.size (zI zL xo) (zI zL xa) (.string xs) (zI zL xn) (zI zL xd) (.bool xf) (zI zL xm) (zI zL xr) (zI zL xy) (.slice xq xk xc)->Sx w F b p cap qb ts En mb k'->Kfr V5.heap.size v2 F->bodyPost _ _ _ _ _ F) _ (R2.out.put _ _ _ _ _ _ _ _ _ _) ?_ ?_
  ·exact zz75
  ·exact Ac
  ·exact(((((((((((Kfr.refl V5.heap.size _).set zac 0 none _).set zac 1 none _).set zac 2 none _).set zac 3 none _).set zac 4 none _).set zac 5 none _).set zac 6 none _).set zac 7 none _).set zac 8 none _).set zac 9 none _)
end
theorem zN {M:Int->Int->Int×Int×Int}{l:Nat}(h6:l<6)(h2:l≠2)(ts:List Tok):rd M (.row l) ts=(rd M (.row (l+1)) ts).bind fun n r=>rd M (.loop l ts.length n) r:=by
 rw[fK]
 simp only[Pa.step]
 rw[if_neg zac,if_neg h2]
theorem Bp {M:Int->Int->Int×Int×Int}{l pl:Nat}{n:Tree}(h3:l≠3)(ts:List Tok):rd M (.loop l pl n) ts=match which (signs l) ts with
  | none=> .ok n ts
  | some i=>(rd M (.row (l+1)) ts.tail).bind fun m r=>rd M (.loop l pl (.mk ((ops l).getD i 0) pl [] 0 0 1 [n,m])) r:=by
 rw[fK]
 simp only[Pa.step]
 cases which (signs l) ts with
 | none=>rfl
 | some i=>simp only[if_neg h3]
theorem NodeA.set {w:World}{A:Nat->Prop}{ofs:Nat->Int}{t:Tree}{x:NV}(h:NodeA w A ofs t x){r:Nat}(hr:¬A r)(o:Nat)(y:Value):NodeA (w.setCell ⟨r,o,none⟩ y) A ofs t x :=
 NodeA.keep zbb (fun j hj _=>Below.heap_setCell _ _ _ _ (by show j≠r;rintro rfl;exact hr hj)) (fun _ h _=>h) t x h
section
variable {b cap qb En mb:Nat} {p:Option Addr} {ts:List Tok}
theorem Bo {l pl k:Nat}{n:Tree}(hk:eQ ts)(hl:l<6/\l≠2)(h3:l≠3):rd M0 (.loop l pl n) (ts.drop k)=match opAt (lv l) (pk ts En k).t with
  | none=> .ok n (ts.drop k)
  | some (o,_)=>(rd M0 (.row (l+1)) (ts.drop (k+1))).bind fun m r=>rd M0 (.loop l pl (.mk o pl [] 0 0 1 [n,m])) r:=by
 have hs:[] ∉ signs l:=by
  have:l=0\/l=1\/l=3\/l=4\/l=5:=zac
  rcases this with rfl|rfl|rfl|rfl|rfl<;>decide
 rw[Bp h3,pO l hl]
 unfold which
 rw[eZ (En:=En) hk (signs l) 0 hs,List.tail_drop]
 cases idx (signs l) (pk ts En k).t with
 | none=>rfl
 | some i=>rfl
theorem A9 {l:Nat}{x:List UInt8}{o:Int}{e:Bool}(hl:l<6/\l≠2)(h3:l≠3)(h:opAt (lv l) x=some (o,e)):e=false:=by
 rw[pO l hl] at h
 cases hi:idx (signs l) x with
 | none=>rw[hi] at h;cases h
 | some i =>
  rw[hi] at h
  simp only[Option.map_some,Option.some.injEq,Prod.mk.injEq] at h
  rw[<-h.2,decide_eq_false h3,Bool.false_and]
theorem CW (l:Nat):0<lv l:=by unfold lv;split<;>omega
structure Rw (w wr:World) (b:Nat) (p:Option Addr) (cap qb:Nat) (ts:List Tok) (En mb k lq:Nat) (n:Tree) (x:NV):Prop where
 st:Sx w wr b p cap qb ts En mb k
 rb:B10 wr w.heap.size (zI zL 0) (zI zL 0) (.string ⟨#[]⟩) (zI zL 0) (zI zL 0) (.bool false) (zI zL 0) (zI zL 0) (zI zL 0) (.slice none 0 0)
 lb:B10 wr lq (zI zL x.o) (zI zL x.a) (.string x.s) (zI zL x.n) (zI zL x.d) (.bool x.f) (zI zL x.m) (zI zL x.r) (zI zL x.y) (.slice x.q x.k x.c)
 nd:NodeA wr (fun j=>w.heap.size+1<=j/\j≠lq) (ag ts En) n x
 lt:w.heap.size<lq
theorem jw (l:Nat)(hl:l<6/\l≠2)(h3:l≠3)(N:Nat)(F:FuncId)(hE:∀(args:Array Value) (w:World),(callFunc F args).run Tryz.prog w = .ok (.enter F args) w)
  (HF:∀(k:Nat) (w:World),Rd w b p cap qb ts En mb k->ts.length-k<=N->Calls Tryz.prog F #[.pointer (some ⟨b,0,none⟩)] w fun e w'=>ak w b p cap qb ts En mb (vX w.heap.size (ag ts En)) (rd M0 (.row (l+1)) (ts.drop k)) e w')
  (k:Nat)(w:World)(h:Rd w b p cap qb ts En mb k)(hN:ts.length-k<=N) :
  Calls Tryz.prog 83 #[.pointer (some ⟨b,0,none⟩),zI zL (lv l),.func (.func F) #[.pointer (some ⟨b,0,none⟩)] #[]] w fun e w'=>ak w b p cap qb ts En mb (vX w.heap.size (ag ts En)) (rd M0 (.row l) (ts.drop k)) e w':=by
 have hf:=jN
 have hok:=h.ok
 have KP:=zH (fun w h=>aC (b:=b) (cap:=cap) (qb:=qb) (En:=En) (mb:=mb) (k:=k) (p:=p) (ts:=ts) w h)
 have HP:Hid ((pk ts En k).a=ag ts En (ts.length-k)):=bF h.kl
 have HF:=zH HF
 have hlv:=CW l
 rw[zN hl.1 hl.2,List.length_drop]
 generalize hO:((rd M0 (.row (l+1)) (ts.drop k)).bind fun n r=>rd M0 (.loop l (ts.length-k) n) r)=O
 have HO:=zH hO
 clear hO
 obtain⟨LV,hLV⟩:∃z,z=lv l:=⟨_,rfl⟩
 have HY:=zH (fun (k:Nat) (w:World) (h:Rd w b p cap qb ts En mb k) o x ho=>lQ (lv l) w h hlv o x ho)
 have HNo:=zH (fun (k:Nat) (w:World) (h:Rd w b p cap qb ts En mb k) ho=>oO (lv l) w h hlv ho)
 rw[<-hLV] at HY HNo |-
 have HLV:=zH hLV
 clear hLV hlv
 have S0:=zH ((Sx.start h).alloc (.cells #[zI zL 0,zI zL 0,.string ⟨#[]⟩,zI zL 0,zI zL 0,.bool false,zI zL 0,zI zL 0,zI zL 0,.slice none 0 0] 36))
 have R0:=zH (B10.new w (zI zL 0) (zI zL 0) (.string ⟨#[]⟩) (zI zL 0) (zI zL 0) (.bool false) (zI zL 0) (zI zL 0) (zI zL 0) (.slice none 0 0) 36)
 have NB:w.heap.size≠b:=zbd
 have B0:(w.alloc (.cells #[zI zL 0,zI zL 0,.string ⟨#[]⟩,zI zL 0,zI zL 0,.bool false,zI zL 0,zI zL 0,zI zL 0,.slice none 0 0] 36)).heap.size=w.heap.size+1:=by simp
 clear h
 obtain⟨at0,hat⟩:∃z,z=ag ts En (ts.length-k):=⟨_,rfl⟩
 rw[<-hat] at HP
 have HAT:=zH hat
 clear hat
 have HA:Hid ((pk ts En k).a=at0):=HP
 generalize pk ts En k=t at *
 obtain⟨tk,ta,tt,tn,td⟩:=t
 obtain rfl:ta=at0:=HA.out
 clear HP HA
 unfold fI at KP
 go_enter Tryz.func83,Tryz.ntmps83
 go_wp2_with fail
 change Calls _ _ _ (w.alloc (.cells #[zI zL 0,zI zL 0,.string ⟨#[]⟩,zI zL 0,zI zL 0,.bool false,zI zL 0,zI zL 0,zI zL 0,.slice none 0 0] 36)) _
 generalize w.alloc (.cells #[zI zL 0,zI zL 0,.string ⟨#[]⟩,zI zL 0,zI zL 0,.bool false,zI zL 0,zI zL 0,zI zL 0,.slice none 0 0] 36)=V at *
 refine(KP.out _ S0.out.rd).mono ?_
 rintro _ v ⟨rfl,hb⟩
 have S1:=zH (S0.out.bel hb)
 have R1:=zH (R0.out.bel hb)
 have hv:=hb.size
 clear hb S0 R0 KP
 have KF:=zH (HF.out k v S1.out.rd hN)
 have HG:=zH (aX (M:=M0) (.row (l+1)) (ts.drop k))
 generalize ho:rd M0 (.row (l+1)) (ts.drop k)=o at *
 clear ho
 go_wp2_with fail
 refine KF.out.mono ?_
 cases o with
 | er E q m =>
  rintro _ v2 ⟨k',rfl,hkp,hrd,hm⟩
  have S2:=zH (S1.out.call hkp hrd)
  go_wp2_with fail
  exact aa rfl (ak.er HO.out.symm rfl hm S2.out)
 | ok n r =>
  rintro _ v2 ⟨_,k1,rfl,⟨⟨xo,xa,xs,xn,xd,xf,xm,xr,xy,xq,xk,xc⟩,rfl,hx⟩,hkp,hrd,rfl⟩
  have hsz:=hkp.size
  have hsz':=hv
  have hbv:=S1.out.bl
  have hk1:k1<=ts.length:=hrd.kl
  have hkk:ts.length-k1<=N:=by
   have:=HG.out.len.2 rfl
   simp only[List.length_drop] at this
   omega
  have H0:Hid (Rw w (v2.alloc (.cells #[zI zL xo,zI zL xa,.string xs,zI zL xn,zI zL xd,.bool xf,zI zL xm,zI zL xr,zI zL xy,.slice xq xk xc] 36)) b p cap qb ts En mb k1 v2.heap.size n ⟨xo,xa,xs,xn,xd,xf,xm,xr,xy,xq,xk,xc⟩):=by
   have hbl:=(Below.refl v2.heap.size v2).alloc (Nat.le_refl _) (.cells #[zI zL xo,zI zL xa,.string xs,zI zL xn,zI zL xd,.bool xf,zI zL xm,zI zL xr,zI zL xy,.slice xq xk xc] 36)
   exact⟨(S1.out.call hkp hrd).bel hbl,(R1.out.call hkp NB).bel hbl,B10.new v2 (zI zL xo) (zI zL xa) (.string xs) (zI zL xn) (zI zL xd) (.bool xf) (zI zL xm) (zI zL xr) (zI zL xy) (.slice xq xk xc) 36,NodeA.keep (w:=v2) hbl.size (fun j _ hj=>hbl.block j hj) (fun j (hj:v.heap.size<=j) hj2=>⟨zac,zac⟩) _ _ hx,zac⟩
  clear hkp hrd hx S1 R1 KF
  unfold nv
  have HO2:=HO.out
  rw[bind_ok] at HO2
  replace HO:=zH HO2
  clear HO2
  have NLB:v2.heap.size≠b:=by have:=hbv;omega
  have hlw:w.heap.size<v2.heap.size:=zac
  go_wp2_with fail
  have hV2:(v2.alloc (.cells #[zI zL xo,zI zL xa,.string xs,zI zL xn,zI zL xd,.bool xf,zI zL xm,zI zL xr,zI zL xy,.slice xq xk xc] 36)).heap.size=v2.heap.size+1:=by simp
  generalize v2.heap.size=lq at *
  generalize v2.alloc (.cells #[zI zL xo,zI zL xa,.string xs,zI zL xn,zI zL xd,.bool xf,zI zL xm,zI zL xr,zI zL xy,.slice xq xk xc] 36)=V2 at *
  go_loopg [] ts.length (fun g wr=>∃(k':Nat) (n:Tree) (x:NV),ts.length-k'<=g/\ts.length-k'<=N/\Hid (Rw w wr b p cap qb ts En mb k' lq n x)/\Hid (rd M0 (.loop l (ts.length-k) n) (ts.drop k')=O))
  case atStart=>exact⟨k1,n,_,zac,hkk,H0,HO⟩
  case round =>
   clear H0 HO n hk1 hkk hsz hsz' HG
   obtain⟨k',n,⟨xo,xa,xs,xn,xd,xf,xm,xr,xy,xq,xk,xc⟩,hg,hk',H,HO⟩:=hrel
   have HE:=HO.out
   rw[Bo (En:=En) hok hl h3,<-HLV.out] at HE
   have hql:=World.block_lt_of_cell? _ _ H.out.lb.c0
   simp only at hql
   cases hop:opAt LV (pk ts En k').t with
   | none =>
    rw[hop] at HE
    simp only at HE
    have K1:=zH (HNo.out k' wr H.out.st.rd hop)
    replace HE:=zH HE
    clear hop HO
    go_wp2_with fail
    refine K1.out.mono ?_
    rintro _ v3 ⟨rfl,hkp,hrd⟩
    have bl:=(Below.refl v3.heap.size v3).alloc (Nat.le_refl _) (.cells #[zI zL 0,zI zL 0,.bool false] 108)
    have S3:=zH ((H.out.st.call hkp hrd).bel bl)
    have R3:=zH ((H.out.rb.call hkp NB).bel bl)
    have L3:=zH ((H.out.lb.call hkp NLB).bel bl)
    have HN:Hid (ah (v3.alloc (.cells #[zI zL 0,zI zL 0,.bool false] 108)) (w.heap.size+1) (ag ts En) n ⟨xo,xa,xs,xn,xd,xf,xm,xr,xy,xq,xk,xc⟩):=NodeA.bel bl _ _ (NodeA.keep hkp.size (fun j hj hj2=>hkp.block j hj2 (by have:=H.out.st.bl;omega)) (fun j hj _=>hj.1) _ _ H.out.nd)
    clear bl hkp hrd K1 H
    unfold opV
    obtain⟨z0,z1,z2,z3,z4,z5,z6,z7,z8,z9,-,-,-,-,-,-,-,-,-,-⟩:=L3.out
    obtain⟨r0,r1,r2,r3,r4,r5,r6,r7,r8,r9,q0,q1,q2,q3,q4,q5,q6,q7,q8,q9⟩:=R3.out
    go_wp2_with fail
    refine(?_:∀F:World,B10 F w.heap.size (zI zL xo) (zI zL xa) (.string xs) (zI zL xn) (zI zL xd) (.bool xf) (zI zL xm) (zI zL xr) (zI zL xy) (.slice xq xk xc)->Sx w F b p cap qb ts En mb k'->Kfr (w.heap.size+1) (v3.alloc (.cells #[zI zL 0,zI zL 0,.bool false] 108)) F->bodyPost _ _ _ _ _ F) _ (R3.out.put _ _ _ _ _ _ _ _ _ _) ?_ ?_
    ·intro F hF hS hK
     obtain⟨y0,y1,y2,y3,y4,y5,y6,y7,y8,y9,-,-,-,-,-,-,-,-,-,-⟩:=hF
     exact bodyPost_ret (v:= .agg #[zI zL xo,zI zL xa,.string xs,zI zL xn,zI zL xd,.bool xf,zI zL xm,zI zL xr,zI zL xy,.slice xq xk xc]) (by simp[results,Tryz.results83,go_sem,y0,y1,y2,y3,y4,y5,y6,y7,y8,y9]) rfl (ak.ok HE.out.symm ⟨⟨xo,xa,xs,xn,xd,xf,xm,xr,xy,xq,xk,xc⟩,rfl,ah.keep hK zac _ _ HN.out⟩ hS)
    ·exact zz98
    ·exact Fj
   | some e =>
    obtain⟨op,ex⟩:=e
    obtain rfl:=A9 hl h3 (by rw[<-HLV.out];exact hop)
    rw[hop] at HE
    simp only at HE
    have K1:=zH (HY.out k' wr H.out.st.rd op false hop)
    replace HE:=zH HE
    clear hop HO
    go_wp2_with fail
    refine K1.out.mono ?_
    rintro _ v3 ⟨rfl,hkp,hrd⟩
    have bl:=(Below.refl v3.heap.size v3).alloc (Nat.le_refl _) (.cells #[zI zL LV,zI zL op,.bool false] 108)
    have S3:=zH ((H.out.st.call hkp hrd).bel bl)
    have R3:=zH ((H.out.rb.call hkp NB).bel bl)
    have L3:=zH ((H.out.lb.call hkp NLB).bel bl)
    have P3:=zH (B3.new v3 (zI zL LV) (zI zL op) (.bool false) 108)
    have ND:Hid (NodeA (v3.alloc (.cells #[zI zL LV,zI zL op,.bool false] 108)) (fun j=>w.heap.size+1<=j/\j≠lq) (ag ts En) n ⟨xo,xa,xs,xn,xd,xf,xm,xr,xy,xq,xk,xc⟩):=NodeA.bel bl _ _ (NodeA.keep hkp.size (fun j hj hj2=>hkp.block j hj2 (by have:=H.out.st.bl;omega)) (fun j hj _=>hj) _ _ H.out.nd)
    have hsz3:=hkp.size
    have hbl3:=H.out.st.bl
    have NPB:v3.heap.size≠b:=zac
    have NPL:v3.heap.size≠lq:=zac
    have hV3:(v3.alloc (.cells #[zI zL LV,zI zL op,.bool false] 108)).heap.size=v3.heap.size+1:=by simp
    clear bl hkp hrd K1
    have hlt:=H.out.lt
    clear H
    unfold opV
    go_wp2_with fail
    generalize v3.alloc (.cells #[zI zL LV,zI zL op,.bool false] 108)=V3 at *
    generalize v3.heap.size=oq at *
    have KF:=zH (HF.out (k'+1) V3.drew S3.out.drew.rd zac)
    have HG:=zH (aX (M:=M0) (.row (l+1)) (ts.drop (k'+1)))
    generalize rd M0 (.row (l+1)) (ts.drop (k'+1))=oo at KF HE HG
    obtain⟨p0,p1,p2,-,-,-⟩:=P3.out
    obtain⟨z0,z1,z2,z3,z4,z5,z6,z7,z8,z9,-,-,-,-,-,-,-,-,-,-⟩:=L3.out
    have hS:V3.drew.cell? ⟨oq,0,none⟩=some (zI zL LV)/\V3.drew.cell? ⟨oq,1,none⟩=some (zI zL op)/\V3.drew.cell? ⟨oq,2,none⟩=some (.bool false):=⟨p0,p1,p2⟩
    refine wp_region_held (S:=fun w':World=>w'.cell? ⟨oq,0,none⟩=some (zI zL LV)/\w'.cell? ⟨oq,1,none⟩=some (zI zL op)/\w'.cell? ⟨oq,2,none⟩=some (.bool false)) mixed ?_
    change wpAnyH _ _ _ _ _ _ _ _ V3.drew
    refine tk0 (v:=?_) zab zab zab (fun _ _ _ h=>h) (Or.inl ⟨by rfl,?_⟩) hS ?_
    rotate_left
    ·(intro w hSw;(try dsimp only at hSw);go_simp;try with_reducible rfl)
    simp only[Act.put,zA,zB,zC]
    refine tk1 (v:=?_) zab zab zab (fun _ _ _ h=>h) (Or.inl ⟨by rfl,?_⟩) hS ?_
    rotate_left
    ·(intro w hSw;(try dsimp only at hSw);go_simp;try with_reducible rfl)
    simp only[Act.put,zA,zB,zC]
    refine tk3 (v:=?_) zab zab zab (fun _ _ _ h=>h) (Or.inl ⟨by rfl,?_⟩) hS ?_
    rotate_left
    ·(intro w hSw;(try dsimp only at hSw);go_simp;try with_reducible rfl)
    simp only[Act.put,zA,zB,zC]
    refine wpAnyH_ready (rs:=[2,4]) zab (by simp) (st2 (fun K hK=>?_) (st4 (fun K hK=>?_) AllReadyH.nil))
    ·go_simp
     refine hK.out _ _ ?_ (fun hHeld=>?_)
     ·exact hS
     clear hK K
     try simp only[Act.put,zA,zB,zC]
     refine wpAnyH_ready (rs:=[4]) zab (by simp) (st4 (fun K hK=>?_) AllReadyH.nil)
     go_simp
     refine KF.out.mono ?_
     cases oo with
     | er E q m =>
      rintro _ v5 ⟨k2,rfl,hkp,hrd,hm⟩
      have S5:=zH (S3.out.drew.call hkp hrd)
      go_wp2_with fail
      exact aa rfl (ak.er HE.out.symm rfl hm S5.out)
     | ok m r =>
      rintro _ v5 ⟨_,k2,rfl,⟨⟨yo,ya,ys,yn,yd,yf,ym,yr,yy,yq,yk,yc⟩,rfl,hy⟩,hkp,hrd,rfl⟩
      have hdr:=(Below.refl V3.heap.size V3).drew
      have S5:=zH (S3.out.drew.call hkp hrd)
      have R5:=zH ((R3.out.bel hdr).call hkp NB)
      have L5:=zH ((L3.out.bel hdr).call hkp NLB)
      have P5:=zH ((P3.out.bel hdr).call hkp NPB)
      have ND5:Hid (NodeA v5 (fun j=>w.heap.size+1<=j/\j≠lq) (ag ts En) n ⟨xo,xa,xs,xn,xd,xf,xm,xr,xy,xq,xk,xc⟩):=NodeA.keep (w:=V3.drew) hkp.size (fun j hj hj2=>hkp.block j hj2 zac) (fun j hj _=>hj) _ _ (NodeA.bel hdr _ _ ND.out)
      have NM5:Hid (NodeA v5 (fun j=>w.heap.size+1<=j/\j≠lq) (ag ts En) m ⟨yo,ya,ys,yn,yd,yf,ym,yr,yy,yq,yk,yc⟩):=NodeA.keep (Nat.le_refl _) (fun _ _ _=>rfl) (fun j (hj:V3.heap.size<=j) _=>⟨zac,zac⟩) _ _ hy
      have hsz5:V3.heap.size<=v5.heap.size:=hkp.size
      clear hdr hkp hrd hy S3 R3 L3 P3 ND KF
      unfold nv
      go_wp2_with fail
      exact zz28
    ·go_simp
     refine KF.out.mono ?_
     cases oo with
     | er E q m =>
      rintro _ v5 ⟨k2,rfl,hkp,hrd,hm⟩
      have S5:=zH (S3.out.drew.call hkp hrd)
      go_wp2_with fail
      exact aa rfl (ak.er HE.out.symm rfl hm S5.out)
     | ok m r =>
      rintro _ v5 ⟨_,k2,rfl,⟨⟨yo,ya,ys,yn,yd,yf,ym,yr,yy,yq,yk,yc⟩,rfl,hy⟩,hkp,hrd,rfl⟩
      have hdr:=(Below.refl V3.heap.size V3).drew
      have S5:=zH (S3.out.drew.call hkp hrd)
      have R5:=zH ((R3.out.bel hdr).call hkp NB)
      have L5:=zH ((L3.out.bel hdr).call hkp NLB)
      have P5:=zH ((P3.out.bel hdr).call hkp NPB)
      have ND5:Hid (NodeA v5 (fun j=>w.heap.size+1<=j/\j≠lq) (ag ts En) n ⟨xo,xa,xs,xn,xd,xf,xm,xr,xy,xq,xk,xc⟩):=NodeA.keep (w:=V3.drew) hkp.size (fun j hj hj2=>hkp.block j hj2 zac) (fun j hj _=>hj) _ _ (NodeA.bel hdr _ _ ND.out)
      have NM5:Hid (NodeA v5 (fun j=>w.heap.size+1<=j/\j≠lq) (ag ts En) m ⟨yo,ya,ys,yn,yd,yf,ym,yr,yy,yq,yk,yc⟩):=NodeA.keep (Nat.le_refl _) (fun _ _ _=>rfl) (fun j (hj:V3.heap.size<=j) _=>⟨zac,zac⟩) _ _ hy
      have hsz5:V3.heap.size<=v5.heap.size:=hkp.size
      clear hdr hkp hrd hy S3 R3 L3 P3 ND KF
      unfold nv
      go_wp2_with fail
      refine hK.out _ _ ?_ (fun hHeld=>?_)
      ·exact⟨P5.out.c0,P5.out.c1,P5.out.c2⟩
      clear hK K
      try simp only[Act.put,zA,zB,zC]
      clear z0 z1 z2 z3 z4 z5 z6 z7 z8 z9
      obtain⟨z0,z1,z2,z3,z4,z5,z6,z7,z8,z9,-,-,-,-,-,-,-,-,-,-⟩:=L5.out
      refine wpAnyH_ready (rs:=[2]) zab (by simp) (st2 (fun K hK=>?_) AllReadyH.nil)
      go_simp
      exact zz28
end
end Go.Proofs.YtnjfolljbfkojaaGreatDoor
