import Derived.Test.YtnjfolljbfkojaaGreatDoorMAZ
set_option maxRecDepth 100000
set_option maxHeartbeats 20000000
namespace Go.Proofs.YtnjfolljbfkojaaGreatDoor
open Go.Value renaming int→zI
open Go.IntKind renaming i64→zL
open Go.Lib renaming hid→zH
open Go.RowKit Lx Pa
section
variable {b cap qb En mb:Nat} {p:Option Addr} {ts:List Tok}
theorem Er {pl k:Nat}{n:Tree}(hk:eQ ts):rd M0 (.loop 3 pl n) (ts.drop k)=match opAt 3 (pk ts En k).t with
  | none=> .ok n (ts.drop k)
  | some (o,e)=>(rd M0 (.row 4) (ts.drop (k+1))).bind fun m r=> .ok (.mk o pl [] 0 0 1 (if e=true then [m,n] else [n,m])) r:=by
 rw[fK]
 simp only[Pa.step]
 rw[show(3:Int)=lv 3 from rfl,pO 3 zah]
 unfold which
 rw[eZ (En:=En) hk (signs 3) 0 zah,List.tail_drop]
 cases idx (signs 3) (pk ts En k).t with
 | none=>rfl
 | some i=>simp
theorem Ab {k:Nat}:rd M0 (.row 2) (ts.drop k)=if isW oH (ts.drop k)=true then (rd M0 (.row 2) (ts.drop (k+1))).bind fun n r=> .ok (.mk 15 (ts.length-k) [] 0 0 1 [n]) r else rd M0 (.row 3) (ts.drop k):=by
 rw[fK]
 simp only[Pa.step]
 rw[if_neg zah,if_pos trivial,List.tail_drop,List.length_drop]
theorem DL {k:Nat}:rd M0 .ex (ts.drop k)=if isW kIf (ts.drop k)=true then
  (rd M0 .ex (ts.drop (k+1))).bind fun a r1=>(need dL r1).bind fun _ r2=>(rd M0 .ex r2).bind fun b r3=>(need cu r3).bind fun _ r4=>(rd M0 .ex r4).bind fun c r5=> .ok (.mk 16 (ts.length-k) [] 0 0 1 [a,b,c]) r5 else rd M0 (.row 0) (ts.drop k):=by
 rw[fK]
 simp only[Pa.step]
 rw[List.tail_drop,List.length_drop]
theorem vV {k:Nat}(o:Out Tree)(w:World)(h:Rd w b p cap qb ts En mb k)(hw:isW oH (ts.drop k)=false)(HK:∀w,Rd w b p cap qb ts En mb k->Calls Tryz.prog 111 #[.pointer (some ⟨b,0,none⟩)] w fun e w'=>ak w b p cap qb ts En mb (vX w.heap.size (ag ts En)) o e w') :
  Calls Tryz.prog 99 #[.pointer (some ⟨b,0,none⟩)] w fun e w'=>ak w b p cap qb ts En mb (vX w.heap.size (ag ts En)) o e w':=by
 have hf:=jN
 have KR:=zH HK
 have KB:=zH (fun w h=>aA (b:=b) (cap:=cap) (qb:=qb) (En:=En) (mb:=mb) (k:=k) (p:=p) (ts:=ts) oH zah w h)
 rw[hw,if_neg (by simp)] at KB
 clear HK hw
 have KP:=zH (fun w h=>aC (b:=b) (cap:=cap) (qb:=qb) (En:=En) (mb:=mb) (k:=k) (p:=p) (ts:=ts) w h)
 have HAO:Hid ((pk ts En k).a=ag ts En (ts.length-k)):=bF h.kl
 have S0:=zH ((Sx.start h).alloc (.cells #[zI zL 0,zI zL 0,.string ⟨#[]⟩,zI zL 0,zI zL 0,.bool false,zI zL 0,zI zL 0,zI zL 0,.slice none 0 0] 36))
 have R0:=zH (B10.new w (zI zL 0) (zI zL 0) (.string ⟨#[]⟩) (zI zL 0) (zI zL 0) (.bool false) (zI zL 0) (zI zL 0) (zI zL 0) (.slice none 0 0) 36)
 have NB:w.heap.size≠b:=zbd
 have B0:(w.alloc (.cells #[zI zL 0,zI zL 0,.string ⟨#[]⟩,zI zL 0,zI zL 0,.bool false,zI zL 0,zI zL 0,zI zL 0,.slice none 0 0] 36)).heap.size=w.heap.size+1:=by simp
 clear h
 generalize pk ts En k=t at *
 obtain⟨tk,ta,tt,tn,td⟩:=t
 unfold fI at KP
 go_enter Tryz.func99,Tryz.ntmps99
 go_wp2_with fail
 change Calls _ _ _ (w.alloc (.cells #[zI zL 0,zI zL 0,.string ⟨#[]⟩,zI zL 0,zI zL 0,.bool false,zI zL 0,zI zL 0,zI zL 0,.slice none 0 0] 36)) _
 generalize w.alloc (.cells #[zI zL 0,zI zL 0,.string ⟨#[]⟩,zI zL 0,zI zL 0,.bool false,zI zL 0,zI zL 0,zI zL 0,.slice none 0 0] 36)=V at *
 refine(KP.out _ S0.out.rd).mono ?_
 rintro _ v ⟨rfl,hb⟩
 have S1:=zH (S0.out.bel hb)
 have R1:=zH (R0.out.bel hb)
 have hv:=hb.size
 clear hb S0 R0 KP
 go_wp2_with fail
 refine(KB.out _ S1.out.rd).mono ?_
 rintro _ v1 ⟨rfl,hkp,hrd⟩
 have S2:=zH (S1.out.call hkp hrd)
 have R2:=zH (R1.out.call hkp NB)
 have hsz_v1:=hkp.size
 clear hkp hrd
 clear S1 R1 KB
 go_wp2_with fail
 refine(KR.out _ S2.out.rd).mono ?_
 cases o with
 | er E q m =>
  rintro _ v2 ⟨k',rfl,hkp,hrd,hm⟩
  have S2:=zH (S2.out.call hkp hrd)
  go_wp2_with fail
  exact aa rfl (ak.er rfl rfl hm S2.out)
 | ok t r =>
  rintro _ v2 ⟨_,k',rfl,⟨⟨xo,xa,xs,xn,xd,xf,xm,xr,xy,xq,xk,xc⟩,rfl,hx⟩,hkp,hrd,rfl⟩
  have S2:=zH (S2.out.call hkp hrd)
  have R2:=zH (R2.out.call hkp NB)
  have HN:=zH hx
  clear hkp hrd hx
  unfold nv
  obtain⟨r0,r1,r2,r3,r4,r5,r6,r7,r8,r9,q0,q1,q2,q3,q4,q5,q6,q7,q8,q9⟩:=R2.out
  go_wp2_with fail
  refine(?_:∀F:World,B10 F w.heap.size (zI zL xo) (zI zL xa) (.string xs) (zI zL xn) (zI zL xd) (.bool xf) (zI zL xm) (zI zL xr) (zI zL xy) (.slice xq xk xc)->Sx w F b p cap qb ts En mb k'->Kfr v1.heap.size v2 F->bodyPost _ _ _ _ _ F) _ (R2.out.put _ _ _ _ _ _ _ _ _ _) ?_ ?_
  ·intro F hF hS hK
   obtain⟨y0,y1,y2,y3,y4,y5,y6,y7,y8,y9,-,-,-,-,-,-,-,-,-,-⟩:=hF
   exact bodyPost_ret (v:= .agg #[zI zL xo,zI zL xa,.string xs,zI zL xn,zI zL xd,.bool xf,zI zL xm,zI zL xr,zI zL xy,.slice xq xk xc]) (by simp[results,Tryz.results99,go_sem,y0,y1,y2,y3,y4,y5,y6,y7,y8,y9]) rfl (ak.ok rfl ⟨⟨xo,xa,xs,xn,xd,xf,xm,xr,xy,xq,xk,xc⟩,rfl,ah.keep hK zac _ _ HN.out⟩ hS)
  ·exact Ac
  ·exact zz99
theorem Br {k:Nat}(w:World)(h:Rd w b p cap qb ts En mb k)(hw:isW oH (ts.drop k)=true)(HX:∀w,Rd w b p cap qb ts En mb (k+1)->Calls Tryz.prog 99 #[.pointer (some ⟨b,0,none⟩)] w fun e w'=>ak w b p cap qb ts En mb (vX w.heap.size (ag ts En)) (rd M0 (.row 2) (ts.drop (k+1))) e w') :
  Calls Tryz.prog 99 #[.pointer (some ⟨b,0,none⟩)] w fun e w'=>ak w b p cap qb ts En mb (vX w.heap.size (ag ts En)) ((rd M0 (.row 2) (ts.drop (k+1))).bind fun n r=> .ok (.mk 15 (ts.length-k) [] 0 0 1 [n]) r) e w':=by
 have hf:=jN
 have KX:=zH HX
 have KB:=zH (fun w h=>aA (b:=b) (cap:=cap) (qb:=qb) (En:=En) (mb:=mb) (k:=k) (p:=p) (ts:=ts) oH zah w h)
 rw[hw,if_pos rfl] at KB
 clear HX hw
 generalize hO:((rd M0 (.row 2) (ts.drop (k+1))).bind fun n r=> .ok (.mk 15 (ts.length-k) [] 0 0 1 [n]) r:Out Tree)=O
 have HO:=zH hO
 clear hO
 have KP:=zH (fun w h=>aC (b:=b) (cap:=cap) (qb:=qb) (En:=En) (mb:=mb) (k:=k) (p:=p) (ts:=ts) w h)
 have HAO:Hid ((pk ts En k).a=ag ts En (ts.length-k)):=bF h.kl
 have S0:=zH ((Sx.start h).alloc (.cells #[zI zL 0,zI zL 0,.string ⟨#[]⟩,zI zL 0,zI zL 0,.bool false,zI zL 0,zI zL 0,zI zL 0,.slice none 0 0] 36))
 have R0:=zH (B10.new w (zI zL 0) (zI zL 0) (.string ⟨#[]⟩) (zI zL 0) (zI zL 0) (.bool false) (zI zL 0) (zI zL 0) (zI zL 0) (.slice none 0 0) 36)
 have NB:w.heap.size≠b:=zbd
 have B0:(w.alloc (.cells #[zI zL 0,zI zL 0,.string ⟨#[]⟩,zI zL 0,zI zL 0,.bool false,zI zL 0,zI zL 0,zI zL 0,.slice none 0 0] 36)).heap.size=w.heap.size+1:=by simp
 clear h
 generalize pk ts En k=t at *
 obtain⟨tk,ta,tt,tn,td⟩:=t
 unfold fI at KP
 simp only at HAO
 go_enter Tryz.func99,Tryz.ntmps99
 go_wp2_with fail
 change Calls _ _ _ (w.alloc (.cells #[zI zL 0,zI zL 0,.string ⟨#[]⟩,zI zL 0,zI zL 0,.bool false,zI zL 0,zI zL 0,zI zL 0,.slice none 0 0] 36)) _
 generalize w.alloc (.cells #[zI zL 0,zI zL 0,.string ⟨#[]⟩,zI zL 0,zI zL 0,.bool false,zI zL 0,zI zL 0,zI zL 0,.slice none 0 0] 36)=V at *
 refine(KP.out _ S0.out.rd).mono ?_
 rintro _ v ⟨rfl,hb⟩
 have S1:=zH (S0.out.bel hb)
 have R1:=zH (R0.out.bel hb)
 have hv:=hb.size
 clear hb S0 R0 KP
 go_wp2_with fail
 refine(KB.out _ S1.out.rd).mono ?_
 rintro _ v1 ⟨rfl,hkp,hrd⟩
 have S2:=zH (S1.out.call hkp hrd)
 have R2:=zH (R1.out.call hkp NB)
 have hsz_v1:=hkp.size
 clear hkp hrd
 clear S1 R1 KB
 go_wp2_with fail
 have KS:=zH (KX.out v1 S2.out.rd)
 generalize rd M0 (.row 2) (ts.drop (k+1))=oo at KS HO
 refine KS.out.mono ?_
 cases oo with
 | er E q m =>
  rintro _ v3 ⟨k',rfl,hkp,hrd,hm⟩
  exact Al
 | ok a r =>
  rintro _ v3 ⟨_,k1,rfl,⟨⟨xo,xa,xs,xn,xd,xf,xm,xr,xy,xq,xk,xc⟩,rfl,hx⟩,hkp,hrd,rfl⟩
  have S3:=zH (S2.out.call hkp hrd)
  have R3:=zH (R2.out.call hkp NB)
  have HN:=zH (hx)
  have hsz_v3:=hkp.size
  have HO2:=HO.out
  rw[bind_ok] at HO2
  replace HO:=zH HO2
  clear HO2 hkp hrd KS
  clear hx S2 R2
  unfold nv
  obtain⟨r0,r1,r2,r3,r4,r5,r6,r7,r8,r9,q0,q1,q2,q3,q4,q5,q6,q7,q8,q9⟩:=R3.out
  have bl:=(Below.refl v3.heap.size v3).alloc (Nat.le_refl _) (.cells #[zI zL xo,zI zL xa,.string xs,zI zL xn,zI zL xd,.bool xf,zI zL xm,zI zL xr,zI zL xy,.slice xq xk xc] 36)
  have S4:=zH (S3.out.bel bl)
  have HB:=zH (heap_alloc_new v3 (.cells #[zI zL xo,zI zL xa,.string xs,zI zL xn,zI zL xd,.bool xf,zI zL xm,zI zL xr,zI zL xy,.slice xq xk xc] 36))
  have hs4:(v3.alloc (.cells #[zI zL xo,zI zL xa,.string xs,zI zL xn,zI zL xd,.bool xf,zI zL xm,zI zL xr,zI zL xy,.slice xq xk xc] 36)).heap.size=v3.heap.size+1:=by simp
  replace HN:=zH (NodeA.bel bl _ _ HN.out)
  have R4:=zH (R3.out.bel bl)
  obtain⟨g0,g1,g2,g3,g4,g5,g6,g7,g8,g9,h0,h1,h2,h3,h4,h5,h6,h7,h8,h9⟩:=R4.out
  clear bl S3
  go_wp2_with fail
  refine(?_:∀F:World,B10 F w.heap.size (zI zL 15) (zI zL ta) (.string ⟨#[]⟩) (zI zL 0) (zI zL 0) (.bool false) (zI zL 0) (zI zL 0) (zI zL 0) (.slice (some ⟨v3.heap.size,0,none⟩) 1 1)->Sx w F b p cap qb ts En mb k1->Kfr (w.heap.size+1) (v3.alloc (.cells #[zI zL xo,zI zL xa,.string xs,zI zL xn,zI zL xd,.bool xf,zI zL xm,zI zL xr,zI zL xy,.slice xq xk xc] 36)) F->bodyPost _ _ _ _ _ F) _ (R4.out.put _ _ _ _ _ _ _ _ _ _) ((((((((((S4.out.other (Nat.le_refl _) 0 _).other (Nat.le_refl _) 1 _).other (Nat.le_refl _) 2 _).other (Nat.le_refl _) 3 _).other (Nat.le_refl _) 4 _).other (Nat.le_refl _) 5 _).other (Nat.le_refl _) 6 _).other (Nat.le_refl _) 7 _).other (Nat.le_refl _) 8 _).other (Nat.le_refl _) 9 _) (((((((((((Kfr.refl (w.heap.size+1) _).set zac 0 none _).set zac 1 none _).set zac 2 none _).set zac 3 none _).set zac 4 none _).set zac 5 none _).set zac 6 none _).set zac 7 none _).set zac 8 none _).set zac 9 none _)
  intro F hF hS hK
  obtain⟨y0,y1,y2,y3,y4,y5,y6,y7,y8,y9,-,-,-,-,-,-,-,-,-,-⟩:=hF
  refine bodyPost_ret (v:= .agg #[zI zL 15,zI zL ta,.string ⟨#[]⟩,zI zL 0,zI zL 0,.bool false,zI zL 0,zI zL 0,zI zL 0,.slice (some ⟨v3.heap.size,0,none⟩) 1 1]) (by simp[results,Tryz.results99,go_sem,y0,y1,y2,y3,y4,y5,y6,y7,y8,y9]) rfl (ak.ok HO.out.symm ⟨⟨15,ta,⟨#[]⟩,0,0,false,0,0,0,some ⟨v3.heap.size,0,none⟩,1,1⟩,rfl,?_⟩ hS)
  rw[HAO.out]
  refine ah.keep hK (Nat.le_succ _) _ _ (dX (T:=36) [a] [⟨xo,xa,xs,xn,xd,xf,xm,xr,xy,xq,xk,xc⟩] 15 (ts.length-k) 1 rfl (by show _<=v3.heap.size;omega) (fun i h h'=>?_) HB.out)
  obtain rfl:i=0:=by simp at h;omega
  exact NodeA.keep (Nat.le_refl _) (fun _ _ _=>rfl) (fun j (hj:v1.heap.size<=j) _=> zch) _ _ HN.out
theorem kN {k:Nat}(w:World)(h:Rd w b p cap qb ts En mb k)(HX:∀(k':Nat) (w:World),Rd w b p cap qb ts En mb k'->ts.length-k'<=ts.length-k->Calls Tryz.prog 120 #[.pointer (some ⟨b,0,none⟩)] w fun e w'=>ak w b p cap qb ts En mb (vX w.heap.size (ag ts En)) (rd M0 (.row 4) (ts.drop k')) e w') :
  Calls Tryz.prog 111 #[.pointer (some ⟨b,0,none⟩)] w fun e w'=>ak w b p cap qb ts En mb (vX w.heap.size (ag ts En)) (rd M0 (.row 3) (ts.drop k)) e w':=by
 rw[zN zah zah,List.length_drop]
 have hf:=jN
 have hok:=h.ok
 have hbl:b<w.heap.size:=h.lt
 have hkl:=h.kl
 have KX:=zH HX
 have HG:=zH (aX (M:=M0) (.row 4) (ts.drop k))
 clear HX
 generalize hO:((rd M0 (.row (3+1)) (ts.drop k)).bind fun n r=>rd M0 (.loop 3 (ts.length-k) n) r:Out Tree)=O
 have HO:=zH hO
 clear hO
 have KP:=zH (fun w h=>aC (b:=b) (cap:=cap) (qb:=qb) (En:=En) (mb:=mb) (k:=k) (p:=p) (ts:=ts) w h)
 have HAO:Hid ((pk ts En k).a=ag ts En (ts.length-k)):=bF h.kl
 obtain⟨at0,hat⟩:∃z,z=ag ts En (ts.length-k):=⟨_,rfl⟩
 rw[<-hat] at HAO
 have HAT:=zH hat
 clear hat
 have S0:=zH ((Sx.start h).alloc (.cells #[zI zL 0,zI zL 0,.string ⟨#[]⟩,zI zL 0,zI zL 0,.bool false,zI zL 0,zI zL 0,zI zL 0,.slice none 0 0] 36))
 have R0:=zH (B10.new w (zI zL 0) (zI zL 0) (.string ⟨#[]⟩) (zI zL 0) (zI zL 0) (.bool false) (zI zL 0) (zI zL 0) (zI zL 0) (.slice none 0 0) 36)
 have NB:w.heap.size≠b:=zbd
 have B0:(w.alloc (.cells #[zI zL 0,zI zL 0,.string ⟨#[]⟩,zI zL 0,zI zL 0,.bool false,zI zL 0,zI zL 0,zI zL 0,.slice none 0 0] 36)).heap.size=w.heap.size+1:=by simp
 clear h
 generalize pk ts En k=t at *
 obtain⟨tk,ta,tt,tn,td⟩:=t
 unfold fI at KP
 simp only at HAO
 obtain rfl:ta=at0:=HAO.out
 clear HAO
 go_enter Tryz.func111,Tryz.ntmps111
 go_wp2_with fail
 change Calls _ _ _ (w.alloc (.cells #[zI zL 0,zI zL 0,.string ⟨#[]⟩,zI zL 0,zI zL 0,.bool false,zI zL 0,zI zL 0,zI zL 0,.slice none 0 0] 36)) _
 generalize w.alloc (.cells #[zI zL 0,zI zL 0,.string ⟨#[]⟩,zI zL 0,zI zL 0,.bool false,zI zL 0,zI zL 0,zI zL 0,.slice none 0 0] 36)=V at *
 refine(KP.out _ S0.out.rd).mono ?_
 rintro _ v ⟨rfl,hb⟩
 have S1:=zH (S0.out.bel hb)
 have R1:=zH (R0.out.bel hb)
 have hv:=hb.size
 clear hb S0 R0 KP
 go_wp2_with fail
 have KS:=zH (KX.out k v S1.out.rd (Nat.le_refl _))
 generalize rd M0 (.row 4) (ts.drop k)=oo at KS HO HG
 refine KS.out.mono ?_
 cases oo with
 | er E q m =>
  rintro _ v2 ⟨k',rfl,hkp,hrd,hm⟩
  have SE:=zH (S1.out.call hkp hrd)
  go_wp2_with fail
  exact aa rfl (ak.er HO.out.symm rfl hm SE.out)
 | ok n r =>
  rintro _ v2 ⟨_,k1,rfl,⟨⟨xo,xa,xs,xn,xd,xf,xm,xr,xy,xq,xk,xc⟩,rfl,hx⟩,hkp,hrd,rfl⟩
  have S2:=zH (S1.out.call hkp hrd)
  have R2:=zH (R1.out.call hkp NB)
  have HN:=zH (NodeA.keep (A':=fun j=>w.heap.size+1<=j) (Nat.le_refl _) (fun _ _ _=>rfl) (fun j (hj:v.heap.size<=j) _=> zch) _ _ hx)
  have hsz_v2:=hkp.size
  have HO2:=HO.out
  rw[bind_ok] at HO2
  replace HO:=zH HO2
  clear HO2 hkp hrd KS
  have HG2:=HG.out.len.2 rfl
  simp only[List.length_drop] at HG2
  clear hx S1 R1 HG
  unfold nv
  have bl:=(Below.refl v2.heap.size v2).alloc (Nat.le_refl _) (.cells #[zI zL xo,zI zL xa,.string xs,zI zL xn,zI zL xd,.bool xf,zI zL xm,zI zL xr,zI zL xy,.slice xq xk xc] 36)
  have S3:=zH (S2.out.bel bl)
  have R3:=zH (R2.out.bel bl)
  have X3:=zH (B10.new v2 (zI zL xo) (zI zL xa) (.string xs) (zI zL xn) (zI zL xd) (.bool xf) (zI zL xm) (zI zL xr) (zI zL xy) (.slice xq xk xc) 36)
  replace HN:=zH (NodeA.bel bl _ _ HN.out)
  have NB3:v2.heap.size≠b:=zac
  have hv3:(v2.alloc (.cells #[zI zL xo,zI zL xa,.string xs,zI zL xn,zI zL xd,.bool xf,zI zL xm,zI zL xr,zI zL xy,.slice xq xk xc] 36)).heap.size=v2.heap.size+1:=by simp
  clear bl S2 R2
  go_wp2_with fail
  generalize v2.alloc (.cells #[zI zL xo,zI zL xa,.string xs,zI zL xn,zI zL xd,.bool xf,zI zL xm,zI zL xr,zI zL xy,.slice xq xk xc] 36)=V3 at *
  generalize v2.heap.size=bq at *
  have HO2':=HO.out
  rw[Er (En:=En) hok] at HO2'
  cases hop:opAt 3 (pk ts En k1).t with
  | none =>
   rw[hop] at HO2'
   simp only at HO2'
   have K1:=zH (oO 3 V3 S3.out.rd zah hop)
   clear hop
   refine K1.out.mono ?_
   rintro _ v4 ⟨rfl,hkp,hrd⟩
   have bl:=(Below.refl v4.heap.size v4).alloc (Nat.le_refl _) (.cells #[zI zL 0,zI zL 0,.bool false] 108)
   have S4:=zH ((S3.out.call hkp hrd).bel bl)
   have R4:=zH ((R3.out.call hkp NB).bel bl)
   have X4:=zH ((X3.out.call hkp NB3).bel bl)
   have HM:=zH (NodeA.bel bl _ _ (NodeA.keep hkp.size (fun j (hj:w.heap.size+1<=j) hj2=>hkp.block j hj2 zac) (fun j hj _=>hj) _ _ HN.out))
   have hsz4:=hkp.size
   have hv4:(v4.alloc (.cells #[zI zL 0,zI zL 0,.bool false] 108)).heap.size=v4.heap.size+1:=by simp
   clear bl hkp hrd K1 S3 R3 X3 HN
   unfold opV
   obtain⟨z0,z1,z2,z3,z4,z5,z6,z7,z8,z9,-,-,-,-,-,-,-,-,-,-⟩:=X4.out
   obtain⟨r0,r1,r2,r3,r4,r5,r6,r7,r8,r9,q0,q1,q2,q3,q4,q5,q6,q7,q8,q9⟩:=R4.out
   go_wp2_with fail
   refine(?_:∀F:World,B10 F w.heap.size (zI zL xo) (zI zL xa) (.string xs) (zI zL xn) (zI zL xd) (.bool xf) (zI zL xm) (zI zL xr) (zI zL xy) (.slice xq xk xc)->Sx w F b p cap qb ts En mb k1->Kfr (w.heap.size+1) (v4.alloc (.cells #[zI zL 0,zI zL 0,.bool false] 108)) F->bodyPost _ _ _ _ _ F) _ (R4.out.put _ _ _ _ _ _ _ _ _ _) ?_ ?_
   ·intro F hF hS hK
    obtain⟨y0,y1,y2,y3,y4,y5,y6,y7,y8,y9,-,-,-,-,-,-,-,-,-,-⟩:=hF
    exact bodyPost_ret (v:= .agg #[zI zL xo,zI zL xa,.string xs,zI zL xn,zI zL xd,.bool xf,zI zL xm,zI zL xr,zI zL xy,.slice xq xk xc]) (by simp[results,Tryz.results111,go_sem,y0,y1,y2,y3,y4,y5,y6,y7,y8,y9]) rfl (ak.ok HO2'.symm ⟨⟨xo,xa,xs,xn,xd,xf,xm,xr,xy,xq,xk,xc⟩,rfl,ah.keep hK zac _ _ HM.out⟩ hS)
   ·exact ED
   ·exact Fj
  | some oe =>
   obtain⟨op,ex⟩:=oe
   rw[hop] at HO2'
   simp only at HO2'
   have K1:=zH (lQ 3 V3 S3.out.rd zah op ex hop)
   clear hop
   refine K1.out.mono ?_
   rintro _ v4 ⟨rfl,hkp,hrd⟩
   have bl:=(Below.refl v4.heap.size v4).alloc (Nat.le_refl _) (.cells #[zI zL 3,zI zL op,.bool ex] 108)
   have S4:=zH ((S3.out.call hkp hrd).bel bl)
   have R4:=zH ((R3.out.call hkp NB).bel bl)
   have X4:=zH ((X3.out.call hkp NB3).bel bl)
   have HM:=zH (NodeA.bel bl _ _ (NodeA.keep hkp.size (fun j (hj:w.heap.size+1<=j) hj2=>hkp.block j hj2 zac) (fun j hj _=>hj) _ _ HN.out))
   have hsz4:=hkp.size
   have hv4:(v4.alloc (.cells #[zI zL 3,zI zL op,.bool ex] 108)).heap.size=v4.heap.size+1:=by simp
   have P4:=zH (B3.new v4 (zI zL 3) (zI zL op) (.bool ex) 108)
   have NPB:v4.heap.size≠b:=zac
   clear bl hkp hrd K1 S3 R3 X3 HN
   unfold opV
   go_wp2_with fail
   generalize v4.alloc (.cells #[zI zL 3,zI zL op,.bool ex] 108)=V4 at *
   generalize v4.heap.size=oq at *
   have KF:=zH (KX.out (k1+1) V4.drew S4.out.drew.rd zac)
   generalize rd M0 (.row 4) (ts.drop (k1+1))=oo at KF HO2'
   obtain⟨p0,p1,p2,-,-,-⟩:=P4.out
   obtain⟨z0,z1,z2,z3,z4,z5,z6,z7,z8,z9,-,-,-,-,-,-,-,-,-,-⟩:=X4.out
   have hS:V4.drew.cell? ⟨oq,0,none⟩=some (zI zL 3)/\V4.drew.cell? ⟨oq,1,none⟩=some (zI zL op)/\V4.drew.cell? ⟨oq,2,none⟩=some (.bool ex)/\V4.drew.cell? ⟨bq,0,none⟩=some (zI zL xo)/\V4.drew.cell? ⟨bq,1,none⟩=some (zI zL xa)/\V4.drew.cell? ⟨bq,2,none⟩=some (.string xs)/\V4.drew.cell? ⟨bq,3,none⟩=some (zI zL xn)/\V4.drew.cell? ⟨bq,4,none⟩=some (zI zL xd)/\V4.drew.cell? ⟨bq,5,none⟩=some (.bool xf)/\V4.drew.cell? ⟨bq,6,none⟩=some (zI zL xm)/\V4.drew.cell? ⟨bq,7,none⟩=some (zI zL xr)/\V4.drew.cell? ⟨bq,8,none⟩=some (zI zL xy)/\V4.drew.cell? ⟨bq,9,none⟩=some (.slice xq xk xc):=⟨p0,p1,p2,z0,z1,z2,z3,z4,z5,z6,z7,z8,z9⟩
   refine wp_region_held (S:=fun w':World=>w'.cell? ⟨oq,0,none⟩=some (zI zL 3)/\w'.cell? ⟨oq,1,none⟩=some (zI zL op)/\w'.cell? ⟨oq,2,none⟩=some (.bool ex)/\w'.cell? ⟨bq,0,none⟩=some (zI zL xo)/\w'.cell? ⟨bq,1,none⟩=some (zI zL xa)/\w'.cell? ⟨bq,2,none⟩=some (.string xs)/\w'.cell? ⟨bq,3,none⟩=some (zI zL xn)/\w'.cell? ⟨bq,4,none⟩=some (zI zL xd)/\w'.cell? ⟨bq,5,none⟩=some (.bool xf)/\w'.cell? ⟨bq,6,none⟩=some (zI zL xm)/\w'.cell? ⟨bq,7,none⟩=some (zI zL xr)/\w'.cell? ⟨bq,8,none⟩=some (zI zL xy)/\w'.cell? ⟨bq,9,none⟩=some (.slice xq xk xc)) mixed ?_
   change wpAnyH _ _ _ _ _ _ _ _ V4.drew
   refine tk0 (v:=?_) zab zab zab (fun _ _ _ h=>h) (Or.inl ⟨by rfl,?_⟩) hS ?_
   rotate_left
   ·(intro w hSw;(try dsimp only at hSw);go_simp;try with_reducible rfl)
   simp only[Act.put,zA,zB,zC]
   refine tk1 (v:=?_) zab zab zab (fun _ _ _ h=>h) (Or.inl ⟨by rfl,?_⟩) hS ?_
   rotate_left
   ·(intro w hSw;(try dsimp only at hSw);go_simp;try with_reducible rfl)
   simp only[Act.put,zA,zB,zC]
   refine tk2 (v:=?_) zab zab zab (fun _ _ _ h=>h) (Or.inl ⟨by rfl,?_⟩) hS ?_
   rotate_left
   ·(intro w hSw;(try dsimp only at hSw);go_simp;try with_reducible rfl)
   simp only[Act.put,zA,zB,zC]
   refine tk3 (v:=?_) zab zab zab (fun _ _ _ h=>h) (Or.inl ⟨by rfl,?_⟩) hS ?_
   rotate_left
   ·(intro w hSw;(try dsimp only at hSw);go_simp;try with_reducible rfl)
   simp only[Act.put,zA,zB,zC]
   refine wpAnyH_ready (rs:=[4]) zab (by simp) (st4 (fun K hK=>?_) AllReadyH.nil)
   go_simp
   refine KF.out.mono ?_
   cases oo with
   | er E q m =>
    rintro _ v5 ⟨k2,rfl,hkp,hrd,hm⟩
    have S5:=zH (S4.out.drew.call hkp hrd)
    go_wp2_with fail
    exact aa rfl (ak.er HO2'.symm rfl hm S5.out)
   | ok m r =>
    rintro _ v5 ⟨_,k2,rfl,⟨⟨yo,ya,ys,yn,yd,yf,ym,yr,yy,yq,yk,yc⟩,rfl,hy⟩,hkp,hrd,rfl⟩
    have hdr:=(Below.refl V4.heap.size V4).drew
    have S5:=zH (S4.out.drew.call hkp hrd)
    have R5:=zH ((R4.out.bel hdr).call hkp NB)
    have X5:=zH ((X4.out.bel hdr).call hkp NB3)
    have P5:=zH ((P4.out.bel hdr).call hkp NPB)
    have ND5:Hid (NodeA v5 (fun j=>w.heap.size+1<=j) (ag ts En) n ⟨xo,xa,xs,xn,xd,xf,xm,xr,xy,xq,xk,xc⟩):=NodeA.keep (w:=V4.drew) hkp.size (fun j (hj:w.heap.size+1<=j) hj2=>hkp.block j hj2 zac) (fun j hj _=>hj) _ _ (NodeA.bel hdr _ _ HM.out)
    have NM5:Hid (NodeA v5 (fun j=>w.heap.size+1<=j) (ag ts En) m ⟨yo,ya,ys,yn,yd,yf,ym,yr,yy,yq,yk,yc⟩):=NodeA.keep (Nat.le_refl _) (fun _ _ _=>rfl) (fun j (hj:V4.heap.size<=j) _=> zch) _ _ hy
    have hsz5:V4.heap.size<=v5.heap.size:=hkp.size
    rw[bind_ok] at HO2'
    clear hdr hkp hrd hy S4 R4 X4 P4 HM KF
    unfold nv
    go_wp2_with fail
    refine hK.out _ _ ?_ (fun hHeld=>?_)
    ·exact⟨P5.out.c0,P5.out.c1,P5.out.c2,X5.out.c0,X5.out.c1,X5.out.c2,X5.out.c3,X5.out.c4,X5.out.c5,X5.out.c6,X5.out.c7,X5.out.c8,X5.out.c9⟩
    clear hK K
    try simp only[Act.put,zA,zB,zC]
    refine wpAnyH_ready (rs:=[5]) zab (by simp) (st5 (fun K hK=>?_) AllReadyH.nil)
    have KN:=zH (lM (fun j=>w.heap.size+1<=j) (ag ts En) 3 op ex (ts.length-k) n m ⟨xo,xa,xs,xn,xd,xf,xm,xr,xy,xq,xk,xc⟩ ⟨yo,ya,ys,yn,yd,yf,ym,yr,yy,yq,yk,yc⟩ v5 ND5.out NM5.out (fun j hj=> zch))
    rw[<-HAT.out] at KN
    unfold opV nv at KN
    go_simp
    refine KN.out.mono ?_
    rintro _ v6 ⟨⟨uo,ua,us,un,ud,uf,um,ur,uy,uq,uk,uc⟩,rfl,hz,hb⟩
    have hsz6:=hb.size
    have S6:=zH (S5.out.bel hb)
    have R6:=zH (R5.out.bel hb)
    have X6:=zH (X5.out.bel hb)
    have P6:=zH (P5.out.bel hb)
    have NZ:=zH hz
    clear hb hz KN S5 R5 X5 P5 ND5 NM5
    go_wp2_with fail
    refine hK.out _ _ ?_ (fun hHeld=>?_)
    ·exact⟨P6.out.c0,P6.out.c1,P6.out.c2,X6.out.c0,X6.out.c1,X6.out.c2,X6.out.c3,X6.out.c4,X6.out.c5,X6.out.c6,X6.out.c7,X6.out.c8,X6.out.c9⟩
    clear hK K
    try simp only[Act.put,zA,zB,zC]
    obtain⟨r0,r1,r2,r3,r4,r5,r6,r7,r8,r9,q0,q1,q2,q3,q4,q5,q6,q7,q8,q9⟩:=R6.out
    have NPR:oq≠w.heap.size:=zac
    have NXR:bq≠w.heap.size:=zac
    refine wpAnyH_ready (rs:=[6]) zab (by simp) (st6 (fun K hK=>?_) AllReadyH.nil)
    go_simp
    have P7:=zH ((((((((((P6.out.other NPR 0 (zI zL uo)).other NPR 1 (zI zL ua)).other NPR 2 (.string us)).other NPR 3 (zI zL un)).other NPR 4 (zI zL ud)).other NPR 5 (.bool uf)).other NPR 6 (zI zL um)).other NPR 7 (zI zL ur)).other NPR 8 (zI zL uy)).other NPR 9 (.slice uq uk uc))
    have X7:=zH ((((((((((X6.out.other NXR 0 none (zI zL uo)).other NXR 1 none (zI zL ua)).other NXR 2 none (.string us)).other NXR 3 none (zI zL un)).other NXR 4 none (zI zL ud)).other NXR 5 none (.bool uf)).other NXR 6 none (zI zL um)).other NXR 7 none (zI zL ur)).other NXR 8 none (zI zL uy)).other NXR 9 none (.slice uq uk uc))
    refine hK.out _ _ ?_ (fun hHeld=>?_)
    ·exact⟨P7.out.c0,P7.out.c1,P7.out.c2,X7.out.c0,X7.out.c1,X7.out.c2,X7.out.c3,X7.out.c4,X7.out.c5,X7.out.c6,X7.out.c7,X7.out.c8,X7.out.c9⟩
    clear hK K
    try simp only[Act.put,zA,zB,zC]
    refine wpAnyH_done zab ?_ _
    go_wp2_with fail
    refine(?_:∀F:World,B10 F w.heap.size (zI zL uo) (zI zL ua) (.string us) (zI zL un) (zI zL ud) (.bool uf) (zI zL um) (zI zL ur) (zI zL uy) (.slice uq uk uc)->Sx w F b p cap qb ts En mb k2->Kfr (w.heap.size+1) v6 F->bodyPost _ _ _ _ _ F) _ (R6.out.put _ _ _ _ _ _ _ _ _ _) ?_ ?_
    ·intro F hF hS hK
     obtain⟨y0,y1,y2,y3,y4,y5,y6,y7,y8,y9,-,-,-,-,-,-,-,-,-,-⟩:=hF
     exact bodyPost_ret (v:= .agg #[zI zL uo,zI zL ua,.string us,zI zL un,zI zL ud,.bool uf,zI zL um,zI zL ur,zI zL uy,.slice uq uk uc]) (by simp[results,Tryz.results111,go_sem,y0,y1,y2,y3,y4,y5,y6,y7,y8,y9]) rfl (ak.ok HO2'.symm ⟨⟨uo,ua,us,un,ud,uf,um,ur,uy,uq,uk,uc⟩,rfl,ah.keep hK zac _ _ NZ.out⟩ hS)
    ·exact((((((((((S6.out.other (Nat.le_refl _) 0 _).other (Nat.le_refl _) 1 _).other (Nat.le_refl _) 2 _).other (Nat.le_refl _) 3 _).other (Nat.le_refl _) 4 _).other (Nat.le_refl _) 5 _).other (Nat.le_refl _) 6 _).other (Nat.le_refl _) 7 _).other (Nat.le_refl _) 8 _).other (Nat.le_refl _) 9 _)
    ·exact Fj
end
section
variable {b cap qb En mb:Nat} {p:Option Addr} {ts:List Tok}
theorem Af (k k1:Nat)(n:Tree)(h:rd M0 .ex (ts.drop k) = .ok n (ts.drop k1)):ts.length-k1<ts.length-k:=by
 have g:=aX (M:=M0) .ex (ts.drop k)
 rw[h] at g
 have:=g.len.2 rfl
 simpa[List.length_drop] using this
theorem qZ (s:List UInt8)(k k1:Nat)(u:Unit)(h:need s (ts.drop k) = .ok u (ts.drop k1)):ts.length-k1<ts.length-k:=by
 unfold need at h
 split at h
 ·rename_i hw
  obtain⟨t,r,e⟩:=bW hw
  have hl:0<(ts.drop k).length:=by rw[e];simp
  rw[List.length_drop] at hl
  injection h with _ h
  have:=congrArg List.length h
  simp only[List.length_tail,List.length_drop] at this
  omega
 ·cases h
theorem qh {k:Nat}(o:Out Tree)(w:World)(h:Rd w b p cap qb ts En mb k)(hw:isW kIf (ts.drop k)=false)(HK:∀w,Rd w b p cap qb ts En mb k->Calls Tryz.prog 68 #[.pointer (some ⟨b,0,none⟩)] w fun e w'=>ak w b p cap qb ts En mb (vX w.heap.size (ag ts En)) o e w') :
  Calls Tryz.prog 48 #[.pointer (some ⟨b,0,none⟩)] w fun e w'=>ak w b p cap qb ts En mb (vX w.heap.size (ag ts En)) o e w':=by
 have hf:=jN
 have KR:=zH HK
 have KB:=zH (fun w h=>aA (b:=b) (cap:=cap) (qb:=qb) (En:=En) (mb:=mb) (k:=k) (p:=p) (ts:=ts) kIf zah w h)
 rw[hw,if_neg (by simp)] at KB
 clear HK hw
 have KP:=zH (fun w h=>aC (b:=b) (cap:=cap) (qb:=qb) (En:=En) (mb:=mb) (k:=k) (p:=p) (ts:=ts) w h)
 have HAO:Hid ((pk ts En k).a=ag ts En (ts.length-k)):=bF h.kl
 have S0:=zH ((Sx.start h).alloc (.cells #[zI zL 0,zI zL 0,.string ⟨#[]⟩,zI zL 0,zI zL 0,.bool false,zI zL 0,zI zL 0,zI zL 0,.slice none 0 0] 36))
 have R0:=zH (B10.new w (zI zL 0) (zI zL 0) (.string ⟨#[]⟩) (zI zL 0) (zI zL 0) (.bool false) (zI zL 0) (zI zL 0) (zI zL 0) (.slice none 0 0) 36)
 have NB:w.heap.size≠b:=zbd
 have B0:(w.alloc (.cells #[zI zL 0,zI zL 0,.string ⟨#[]⟩,zI zL 0,zI zL 0,.bool false,zI zL 0,zI zL 0,zI zL 0,.slice none 0 0] 36)).heap.size=w.heap.size+1:=by simp
 clear h
 generalize pk ts En k=t at *
 obtain⟨tk,ta,tt,tn,td⟩:=t
 unfold fI at KP
 go_enter Tryz.func48,Tryz.ntmps48
 go_wp2_with fail
 change Calls _ _ _ (w.alloc (.cells #[zI zL 0,zI zL 0,.string ⟨#[]⟩,zI zL 0,zI zL 0,.bool false,zI zL 0,zI zL 0,zI zL 0,.slice none 0 0] 36)) _
 generalize w.alloc (.cells #[zI zL 0,zI zL 0,.string ⟨#[]⟩,zI zL 0,zI zL 0,.bool false,zI zL 0,zI zL 0,zI zL 0,.slice none 0 0] 36)=V at *
 refine(KP.out _ S0.out.rd).mono ?_
 rintro _ v ⟨rfl,hb⟩
 have S1:=zH (S0.out.bel hb)
 have R1:=zH (R0.out.bel hb)
 have hv:=hb.size
 clear hb S0 R0 KP
 go_wp2_with fail
 refine(KB.out _ S1.out.rd).mono ?_
 rintro _ v1 ⟨rfl,hkp,hrd⟩
 have S2:=zH (S1.out.call hkp hrd)
 have R2:=zH (R1.out.call hkp NB)
 have hsz_v1:=hkp.size
 clear hkp hrd
 clear S1 R1 KB
 go_wp2_with fail
 refine(KR.out _ S2.out.rd).mono ?_
 cases o with
 | er E q m =>
  rintro _ v2 ⟨k',rfl,hkp,hrd,hm⟩
  have S2:=zH (S2.out.call hkp hrd)
  go_wp2_with fail
  exact aa rfl (ak.er rfl rfl hm S2.out)
 | ok t r =>
  rintro _ v2 ⟨_,k',rfl,⟨⟨xo,xa,xs,xn,xd,xf,xm,xr,xy,xq,xk,xc⟩,rfl,hx⟩,hkp,hrd,rfl⟩
  have S2:=zH (S2.out.call hkp hrd)
  have R2:=zH (R2.out.call hkp NB)
  have HN:=zH hx
  clear hkp hrd hx
  unfold nv
  obtain⟨r0,r1,r2,r3,r4,r5,r6,r7,r8,r9,q0,q1,q2,q3,q4,q5,q6,q7,q8,q9⟩:=R2.out
  go_wp2_with fail
  refine(?_:∀F:World,B10 F w.heap.size (zI zL xo) (zI zL xa) (.string xs) (zI zL xn) (zI zL xd) (.bool xf) (zI zL xm) (zI zL xr) (zI zL xy) (.slice xq xk xc)->Sx w F b p cap qb ts En mb k'->Kfr v1.heap.size v2 F->bodyPost _ _ _ _ _ F) _ (R2.out.put _ _ _ _ _ _ _ _ _ _) ?_ ?_
  ·intro F hF hS hK
   obtain⟨y0,y1,y2,y3,y4,y5,y6,y7,y8,y9,-,-,-,-,-,-,-,-,-,-⟩:=hF
   exact bodyPost_ret (v:= .agg #[zI zL xo,zI zL xa,.string xs,zI zL xn,zI zL xd,.bool xf,zI zL xm,zI zL xr,zI zL xy,.slice xq xk xc]) (by simp[results,Tryz.results48,go_sem,y0,y1,y2,y3,y4,y5,y6,y7,y8,y9]) rfl (ak.ok rfl ⟨⟨xo,xa,xs,xn,xd,xf,xm,xr,xy,xq,xk,xc⟩,rfl,ah.keep hK zac _ _ HN.out⟩ hS)
  ·exact Ac
  ·exact zz99
theorem AQ {k:Nat}(w:World)(h:Rd w b p cap qb ts En mb k)(hw:isW kIf (ts.drop k)=true)(HX:∀(k':Nat) (w:World),Rd w b p cap qb ts En mb k'->ts.length-k'<ts.length-k->Calls Tryz.prog 48 #[.pointer (some ⟨b,0,none⟩)] w fun e w'=>ak w b p cap qb ts En mb (vX w.heap.size (ag ts En)) (rd M0 .ex (ts.drop k')) e w') :
  Calls Tryz.prog 48 #[.pointer (some ⟨b,0,none⟩)] w fun e w'=>ak w b p cap qb ts En mb (vX w.heap.size (ag ts En)) ((rd M0 .ex (ts.drop (k+1))).bind fun a r1=>(need dL r1).bind fun _ r2=>(rd M0 .ex r2).bind fun b r3=>(need cu r3).bind fun _ r4=>(rd M0 .ex r4).bind fun c r5=> .ok (.mk 16 (ts.length-k) [] 0 0 1 [a,b,c]) r5) e w':=by
 have hf:=jN
 have hbl:b<w.heap.size:=h.lt
 have hlt:k<ts.length:=by
  rcases Nat.lt_or_ge k ts.length with z|z
  ·exact z
  ·rw[List.drop_eq_nil_of_le z] at hw;cases hw
 have KX:=zH HX
 have KGL:=zH (Af (ts:=ts))
 have KNL:=zH (qZ (ts:=ts))
 have KB:=zH (fun w h=>aA (b:=b) (cap:=cap) (qb:=qb) (En:=En) (mb:=mb) (k:=k) (p:=p) (ts:=ts) kIf zah w h)
 rw[hw,if_pos rfl] at KB
 clear HX hw
 generalize hO:((rd M0 .ex (ts.drop (k+1))).bind fun a r1=>(need dL r1).bind fun _ r2=>(rd M0 .ex r2).bind fun b r3=>(need cu r3).bind fun _ r4=>(rd M0 .ex r4).bind fun c r5=> .ok (.mk 16 (ts.length-k) [] 0 0 1 [a,b,c]) r5:Out Tree)=O
 have HO:=zH hO
 clear hO
 have KP:=zH (fun w h=>aC (b:=b) (cap:=cap) (qb:=qb) (En:=En) (mb:=mb) (k:=k) (p:=p) (ts:=ts) w h)
 have HAO:Hid ((pk ts En k).a=ag ts En (ts.length-k)):=bF h.kl
 obtain⟨at0,hat⟩:∃z,z=ag ts En (ts.length-k):=⟨_,rfl⟩
 rw[<-hat] at HAO
 have HAT:=zH hat
 clear hat
 have S0:=zH ((Sx.start h).alloc (.cells #[zI zL 0,zI zL 0,.string ⟨#[]⟩,zI zL 0,zI zL 0,.bool false,zI zL 0,zI zL 0,zI zL 0,.slice none 0 0] 36))
 have R0:=zH (B10.new w (zI zL 0) (zI zL 0) (.string ⟨#[]⟩) (zI zL 0) (zI zL 0) (.bool false) (zI zL 0) (zI zL 0) (zI zL 0) (.slice none 0 0) 36)
 have NB:w.heap.size≠b:=zbd
 have B0:(w.alloc (.cells #[zI zL 0,zI zL 0,.string ⟨#[]⟩,zI zL 0,zI zL 0,.bool false,zI zL 0,zI zL 0,zI zL 0,.slice none 0 0] 36)).heap.size=w.heap.size+1:=by simp
 clear h
 generalize pk ts En k=t at *
 obtain⟨tk,ta,tt,tn,td⟩:=t
 unfold fI at KP
 simp only at HAO
 obtain rfl:ta=at0:=HAO.out
 clear HAO
 go_enter Tryz.func48,Tryz.ntmps48
 go_wp2_with fail
 change Calls _ _ _ (w.alloc (.cells #[zI zL 0,zI zL 0,.string ⟨#[]⟩,zI zL 0,zI zL 0,.bool false,zI zL 0,zI zL 0,zI zL 0,.slice none 0 0] 36)) _
 generalize w.alloc (.cells #[zI zL 0,zI zL 0,.string ⟨#[]⟩,zI zL 0,zI zL 0,.bool false,zI zL 0,zI zL 0,zI zL 0,.slice none 0 0] 36)=V at *
 refine(KP.out _ S0.out.rd).mono ?_
 rintro _ v ⟨rfl,hb⟩
 have S1:=zH (S0.out.bel hb)
 have R1:=zH (R0.out.bel hb)
 have hv:=hb.size
 clear hb S0 R0 KP
 go_wp2_with fail
 refine(KB.out _ S1.out.rd).mono ?_
 rintro _ v1 ⟨rfl,hkp,hrd⟩
 have S2:=zH (S1.out.call hkp hrd)
 have R2:=zH (R1.out.call hkp NB)
 have hsz_v1:=hkp.size
 clear hkp hrd
 clear S1 R1 KB
 go_wp2_with fail
 have KS:=zH (KX.out (k+1) v1 S2.out.rd zac)
 generalize ho:rd M0 .ex (ts.drop (k+1))=oo at KS HO
 refine KS.out.mono ?_
 cases oo with
 | er E q m =>
  rintro _ v3 ⟨k',rfl,hkp,hrd,hm⟩
  exact Al
 | ok a1 r =>
  rintro _ v3 ⟨_,k1,rfl,⟨⟨xo,xa,xs,xn,xd,xf,xm,xr,xy,xq,xk,xc⟩,rfl,hx⟩,hkp,hrd,rfl⟩
  have S3:=zH (S2.out.call hkp hrd)
  have R3:=zH (R2.out.call hkp NB)
  have N3:=zH (NodeA.keep (A':=fun j=>w.heap.size+1<=j) (Nat.le_refl _) (fun _ _ _=>rfl) (fun j (hj:v1.heap.size<=j) _=> zch) _ _ hx)
  have hsz_v3:=hkp.size
  have HO2:=HO.out
  rw[bind_ok] at HO2
  replace HO:=zH HO2
  clear HO2 hkp hrd KS
  have G1:=KGL.out (k+1) k1 _ ho
  clear hx S2 R2 ho
  unfold nv
  have hk1:=S3.out.rd.kl
  have bl:=(Below.refl v3.heap.size v3).alloc (Nat.le_refl _) (.cells #[zI zL xo,zI zL xa,.string xs,zI zL xn,zI zL xd,.bool xf,zI zL xm,zI zL xr,zI zL xy,.slice xq xk xc] 36)
  have S4:=zH (S3.out.bel bl)
  have R4:=zH (R3.out.bel bl)
  have N4:=zH (NodeA.bel bl _ _ N3.out)
  have X4:=zH (B10.new v3 (zI zL xo) (zI zL xa) (.string xs) (zI zL xn) (zI zL xd) (.bool xf) (zI zL xm) (zI zL xr) (zI zL xy) (.slice xq xk xc) 36)
  have hv4:(v3.alloc (.cells #[zI zL xo,zI zL xa,.string xs,zI zL xn,zI zL xd,.bool xf,zI zL xm,zI zL xr,zI zL xy,.slice xq xk xc] 36)).heap.size=v3.heap.size+1:=by simp
  clear bl S3 R3 N3
  go_wp2_with fail
  generalize v3.alloc (.cells #[zI zL xo,zI zL xa,.string xs,zI zL xn,zI zL xd,.bool xf,zI zL xm,zI zL xr,zI zL xy,.slice xq xk xc] 36)=V4 at *
  generalize v3.heap.size=xb at *
  have NBX:xb≠b:=zac
  have KS:=zH (dm dL zah _ S4.out.rd)
  generalize ho:need dL (ts.drop k1)=oo at KS HO
  refine KS.out.mono ?_
  cases oo with
  | er E q m =>
   rintro _ v5 ⟨k',rfl,hkp,hrd,hm⟩
   exact Cb
  | ok u r =>
   rintro _ v5 ⟨_,k2,rfl,rfl,hkp,hrd,rfl⟩
   have S5:=zH (S4.out.call hkp hrd)
   have R5:=zH (R4.out.call hkp NB)
   have X5:=zH (X4.out.call hkp NBX)
   have N5:=zH (NodeA.keep hkp.size (fun j (hj:w.heap.size+1<=j) hj2=>hkp.block j hj2 zac) (fun j hj _=>hj) _ _ N4.out)
   have hsz_v5:=hkp.size
   have HO2:=HO.out
   rw[bind_ok] at HO2
   replace HO:=zH HO2
   clear HO2 hkp hrd KS
   have G2:=KNL.out _ k1 k2 _ ho
   clear S4 R4 X4 N4 ho
   go_wp2_with fail
   have KS:=zH (KX.out k2 v5 S5.out.rd zac)
   generalize ho:rd M0 .ex (ts.drop k2)=oo at KS HO
   refine KS.out.mono ?_
   cases oo with
   | er E q m =>
    rintro _ v6 ⟨k',rfl,hkp,hrd,hm⟩
    have SE:=zH (S5.out.call hkp hrd)
    go_wp2_with fail
    exact aa rfl (ak.er HO.out.symm rfl hm SE.out)
   | ok a2 r =>
    rintro _ v6 ⟨_,k3,rfl,⟨⟨yo,ya,ys,yn,yd,yf,ym,yr,yy,yq,yk,yc⟩,rfl,hx⟩,hkp,hrd,rfl⟩
    have S6:=zH (S5.out.call hkp hrd)
    have R6:=zH (R5.out.call hkp NB)
    have X6:=zH (X5.out.call hkp NBX)
    have N6:=zH (NodeA.keep hkp.size (fun j (hj:w.heap.size+1<=j) hj2=>hkp.block j hj2 zac) (fun j hj _=>hj) _ _ N5.out)
    have M6:=zH (NodeA.keep (A':=fun j=>w.heap.size+1<=j) (Nat.le_refl _) (fun _ _ _=>rfl) (fun j (hj:v5.heap.size<=j) _=> zch) _ _ hx)
    have hsz_v6:=hkp.size
    have HO2:=HO.out
    rw[bind_ok] at HO2
    replace HO:=zH HO2
    clear HO2 hkp hrd KS
    have G3:=KGL.out k2 k3 _ ho
    clear hx S5 R5 X5 N5 ho
    unfold nv
    have bl:=(Below.refl v6.heap.size v6).alloc (Nat.le_refl _) (.cells #[zI zL yo,zI zL ya,.string ys,zI zL yn,zI zL yd,.bool yf,zI zL ym,zI zL yr,zI zL yy,.slice yq yk yc] 36)
    have S6b:=zH (S6.out.bel bl)
    have R6b:=zH (R6.out.bel bl)
    have X6b:=zH (X6.out.bel bl)
    have N6b:=zH (NodeA.bel bl _ _ N6.out)
    have M6b:=zH (NodeA.bel bl _ _ M6.out)
    have Y6b:=zH (B10.new v6 (zI zL yo) (zI zL ya) (.string ys) (zI zL yn) (zI zL yd) (.bool yf) (zI zL ym) (zI zL yr) (zI zL yy) (.slice yq yk yc) 36)
    have hv6:(v6.alloc (.cells #[zI zL yo,zI zL ya,.string ys,zI zL yn,zI zL yd,.bool yf,zI zL ym,zI zL yr,zI zL yy,.slice yq yk yc] 36)).heap.size=v6.heap.size+1:=by simp
    clear bl S6 R6 X6 N6 M6
    go_wp2_with fail
    generalize v6.alloc (.cells #[zI zL yo,zI zL ya,.string ys,zI zL yn,zI zL yd,.bool yf,zI zL ym,zI zL yr,zI zL yy,.slice yq yk yc] 36)=V6 at *
    generalize v6.heap.size=yb at *
    have NBY:yb≠b:=zac
    have KS:=zH (dm cu zah _ S6b.out.rd)
    generalize ho:need cu (ts.drop k3)=oo at KS HO
    refine KS.out.mono ?_
    cases oo with
    | er E q m =>
     rintro _ v7 ⟨k',rfl,hkp,hrd,hm⟩
     have SE:=zH (S6b.out.call hkp hrd)
     go_wp2_with fail
     exact aa rfl (ak.er HO.out.symm rfl hm SE.out)
    | ok u r =>
     rintro _ v7 ⟨_,k4,rfl,rfl,hkp,hrd,rfl⟩
     have S7:=zH (S6b.out.call hkp hrd)
     have R7:=zH (R6b.out.call hkp NB)
     have X7:=zH (X6b.out.call hkp NBX)
     have Y7:=zH (Y6b.out.call hkp NBY)
     have N7:=zH (NodeA.keep hkp.size (fun j (hj:w.heap.size+1<=j) hj2=>hkp.block j hj2 zac) (fun j hj _=>hj) _ _ N6b.out)
     have M7:=zH (NodeA.keep hkp.size (fun j (hj:w.heap.size+1<=j) hj2=>hkp.block j hj2 zac) (fun j hj _=>hj) _ _ M6b.out)
     have hsz_v7:=hkp.size
     have HO2:=HO.out
     rw[bind_ok] at HO2
     replace HO:=zH HO2
     clear HO2 hkp hrd KS
     have G4:=KNL.out _ k3 k4 _ ho
     clear S6b R6b X6b Y6b N6b M6b ho
     go_wp2_with fail
     have KF:=zH (KX.out k4 v7.drew S7.out.drew.rd zac)
     generalize rd M0 .ex (ts.drop k4)=oo at KF HO
     obtain⟨x0,x1,x2,x3,x4,x5,x6,x7,x8,x9,-,-,-,-,-,-,-,-,-,-⟩:=X7.out
     obtain⟨y0,y1,y2,y3,y4,y5,y6,y7,y8,y9,-,-,-,-,-,-,-,-,-,-⟩:=Y7.out
     have hS:v7.drew.cell? ⟨xb,0,none⟩=some (zI zL xo)/\v7.drew.cell? ⟨xb,1,none⟩=some (zI zL xa)/\v7.drew.cell? ⟨xb,2,none⟩=some (.string xs)/\v7.drew.cell? ⟨xb,3,none⟩=some (zI zL xn)/\v7.drew.cell? ⟨xb,4,none⟩=some (zI zL xd)/\v7.drew.cell? ⟨xb,5,none⟩=some (.bool xf)/\v7.drew.cell? ⟨xb,6,none⟩=some (zI zL xm)/\v7.drew.cell? ⟨xb,7,none⟩=some (zI zL xr)/\v7.drew.cell? ⟨xb,8,none⟩=some (zI zL xy)/\v7.drew.cell? ⟨xb,9,none⟩=some (.slice xq xk xc)/\v7.drew.cell? ⟨yb,0,none⟩=some (zI zL yo)/\v7.drew.cell? ⟨yb,1,none⟩=some (zI zL ya)/\v7.drew.cell? ⟨yb,2,none⟩=some (.string ys)/\v7.drew.cell? ⟨yb,3,none⟩=some (zI zL yn)/\v7.drew.cell? ⟨yb,4,none⟩=some (zI zL yd)/\v7.drew.cell? ⟨yb,5,none⟩=some (.bool yf)/\v7.drew.cell? ⟨yb,6,none⟩=some (zI zL ym)/\v7.drew.cell? ⟨yb,7,none⟩=some (zI zL yr)/\v7.drew.cell? ⟨yb,8,none⟩=some (zI zL yy)/\v7.drew.cell? ⟨yb,9,none⟩=some (.slice yq yk yc):=⟨x0,x1,x2,x3,x4,x5,x6,x7,x8,x9,y0,y1,y2,y3,y4,y5,y6,y7,y8,y9⟩
     refine wp_region_held (S:=fun w':World=>w'.cell? ⟨xb,0,none⟩=some (zI zL xo)/\w'.cell? ⟨xb,1,none⟩=some (zI zL xa)/\w'.cell? ⟨xb,2,none⟩=some (.string xs)/\w'.cell? ⟨xb,3,none⟩=some (zI zL xn)/\w'.cell? ⟨xb,4,none⟩=some (zI zL xd)/\w'.cell? ⟨xb,5,none⟩=some (.bool xf)/\w'.cell? ⟨xb,6,none⟩=some (zI zL xm)/\w'.cell? ⟨xb,7,none⟩=some (zI zL xr)/\w'.cell? ⟨xb,8,none⟩=some (zI zL xy)/\w'.cell? ⟨xb,9,none⟩=some (.slice xq xk xc)/\w'.cell? ⟨yb,0,none⟩=some (zI zL yo)/\w'.cell? ⟨yb,1,none⟩=some (zI zL ya)/\w'.cell? ⟨yb,2,none⟩=some (.string ys)/\w'.cell? ⟨yb,3,none⟩=some (zI zL yn)/\w'.cell? ⟨yb,4,none⟩=some (zI zL yd)/\w'.cell? ⟨yb,5,none⟩=some (.bool yf)/\w'.cell? ⟨yb,6,none⟩=some (zI zL ym)/\w'.cell? ⟨yb,7,none⟩=some (zI zL yr)/\w'.cell? ⟨yb,8,none⟩=some (zI zL yy)/\w'.cell? ⟨yb,9,none⟩=some (.slice yq yk yc)) mixed ?_
     change wpAnyH _ _ _ _ _ _ _ _ v7.drew
     refine tk0 (v:=?_) zab zab zab (fun _ _ _ h=>h) (Or.inl ⟨by rfl,?_⟩) hS ?_
     rotate_left
     ·(intro w hSw;(try dsimp only at hSw);go_simp;try with_reducible rfl)
     simp only[Act.put,zA,zB,zC]
     refine tk1 (v:=?_) zab zab zab (fun _ _ _ h=>h) (Or.inl ⟨by rfl,?_⟩) hS ?_
     rotate_left
     ·(intro w hSw;(try dsimp only at hSw);go_simp;try with_reducible rfl)
     simp only[Act.put,zA,zB,zC]
     refine tk2 (v:=?_) zab zab zab (fun _ _ _ h=>h) (Or.inl ⟨by rfl,?_⟩) hS ?_
     rotate_left
     ·(intro w hSw;(try dsimp only at hSw);go_simp;try with_reducible rfl)
     simp only[Act.put,zA,zB,zC]
     refine tk3 (v:=?_) zab zab zab (fun _ _ _ h=>h) (Or.inl ⟨by rfl,?_⟩) hS ?_
     rotate_left
     ·(intro w hSw;(try dsimp only at hSw);go_simp;try with_reducible rfl)
     simp only[Act.put,zA,zB,zC]
     refine wpAnyH_ready (rs:=[4]) zab (by simp) (st4 (fun K hK=>?_) AllReadyH.nil)
     go_simp
     refine KF.out.mono ?_
     cases oo with
     | er E q m =>
      rintro _ v8 ⟨k5,rfl,hkp,hrd,hm⟩
      have S8:=zH (S7.out.drew.call hkp hrd)
      go_wp2_with fail
      exact aa rfl (ak.er HO.out.symm rfl hm S8.out)
     | ok a3 r =>
      rintro _ v8 ⟨_,k5,rfl,⟨⟨zo,za,zs,zn,zd,zf,zm,zr,zy,zq,zk,zc⟩,rfl,hz⟩,hkp,hrd,rfl⟩
      have hdr:=(Below.refl v7.heap.size v7).drew
      have S8:=zH (S7.out.drew.call hkp hrd)
      have R8:=zH ((R7.out.bel hdr).call hkp NB)
      have X8:=zH ((X7.out.bel hdr).call hkp NBX)
      have Y8:=zH ((Y7.out.bel hdr).call hkp NBY)
      have N8:Hid (NodeA v8 (fun j=>w.heap.size+1<=j) (ag ts En) a1 ⟨xo,xa,xs,xn,xd,xf,xm,xr,xy,xq,xk,xc⟩):=NodeA.keep (w:=v7.drew) hkp.size (fun j (hj:w.heap.size+1<=j) hj2=>hkp.block j hj2 zac) (fun j hj _=>hj) _ _ (NodeA.bel hdr _ _ N7.out)
      have M8:Hid (NodeA v8 (fun j=>w.heap.size+1<=j) (ag ts En) a2 ⟨yo,ya,ys,yn,yd,yf,ym,yr,yy,yq,yk,yc⟩):=NodeA.keep (w:=v7.drew) hkp.size (fun j (hj:w.heap.size+1<=j) hj2=>hkp.block j hj2 zac) (fun j hj _=>hj) _ _ (NodeA.bel hdr _ _ M7.out)
      have L8:Hid (NodeA v8 (fun j=>w.heap.size+1<=j) (ag ts En) a3 ⟨zo,za,zs,zn,zd,zf,zm,zr,zy,zq,zk,zc⟩):=NodeA.keep (Nat.le_refl _) (fun _ _ _=>rfl) (fun j (hj:v7.heap.size<=j) _=> zch) _ _ hz
      have hsz8:v7.heap.size<=v8.heap.size:=hkp.size
      have HO2:=HO.out
      rw[bind_ok] at HO2
      clear hdr hkp hrd hz S7 R7 X7 Y7 N7 M7 KF HO
      unfold nv
      go_wp2_with fail
      refine hK.out _ _ ?_ (fun hHeld=>?_)
      ·exact⟨X8.out.c0,X8.out.c1,X8.out.c2,X8.out.c3,X8.out.c4,X8.out.c5,X8.out.c6,X8.out.c7,X8.out.c8,X8.out.c9,Y8.out.c0,Y8.out.c1,Y8.out.c2,Y8.out.c3,Y8.out.c4,Y8.out.c5,Y8.out.c6,Y8.out.c7,Y8.out.c8,Y8.out.c9⟩
      clear hK K
      try simp only[Act.put,zA,zB,zC]
      refine wpAnyH_ready (rs:=[5]) zab (by simp) (st5 (fun K hK=>?_) AllReadyH.nil)
      go_simp
      have bl:=(Below.refl v8.heap.size v8).alloc (Nat.le_refl _) (.cells #[zI zL xo,zI zL xa,.string xs,zI zL xn,zI zL xd,.bool xf,zI zL xm,zI zL xr,zI zL xy,.slice xq xk xc,zI zL yo,zI zL ya,.string ys,zI zL yn,zI zL yd,.bool yf,zI zL ym,zI zL yr,zI zL yy,.slice yq yk yc,zI zL zo,zI zL za,.string zs,zI zL zn,zI zL zd,.bool zf,zI zL zm,zI zL zr,zI zL zy,.slice zq zk zc] 36)
      have S9:=zH (S8.out.bel bl)
      have R9:=zH (R8.out.bel bl)
      have X9:=zH (X8.out.bel bl)
      have Y9:=zH (Y8.out.bel bl)
      have N9:=zH (NodeA.bel bl _ _ N8.out)
      have M9:=zH (NodeA.bel bl _ _ M8.out)
      have L9:=zH (NodeA.bel bl _ _ L8.out)
      have HB:=zH (heap_alloc_new v8 (.cells #[zI zL xo,zI zL xa,.string xs,zI zL xn,zI zL xd,.bool xf,zI zL xm,zI zL xr,zI zL xy,.slice xq xk xc,zI zL yo,zI zL ya,.string ys,zI zL yn,zI zL yd,.bool yf,zI zL ym,zI zL yr,zI zL yy,.slice yq yk yc,zI zL zo,zI zL za,.string zs,zI zL zn,zI zL zd,.bool zf,zI zL zm,zI zL zr,zI zL zy,.slice zq zk zc] 36))
      clear bl S8 R8 X8 Y8 N8 M8 L8
      generalize v8.alloc (.cells #[zI zL xo,zI zL xa,.string xs,zI zL xn,zI zL xd,.bool xf,zI zL xm,zI zL xr,zI zL xy,.slice xq xk xc,zI zL yo,zI zL ya,.string ys,zI zL yn,zI zL yd,.bool yf,zI zL ym,zI zL yr,zI zL yy,.slice yq yk yc,zI zL zo,zI zL za,.string zs,zI zL zn,zI zL zd,.bool zf,zI zL zm,zI zL zr,zI zL zy,.slice zq zk zc] 36)=V9 at *
      generalize v8.heap.size=aq at *
      refine hK.out _ _ ?_ (fun hHeld=>?_)
      ·exact⟨X9.out.c0,X9.out.c1,X9.out.c2,X9.out.c3,X9.out.c4,X9.out.c5,X9.out.c6,X9.out.c7,X9.out.c8,X9.out.c9,Y9.out.c0,Y9.out.c1,Y9.out.c2,Y9.out.c3,Y9.out.c4,Y9.out.c5,Y9.out.c6,Y9.out.c7,Y9.out.c8,Y9.out.c9⟩
      clear hK K
      try simp only[Act.put,zA,zB,zC]
      refine tk6 (v:=?_) zab zab zab (fun _ _ _ h=>h) (Or.inl ⟨by rfl,?_⟩) hHeld ?_
      rotate_left
      ·(intro w hSw;(try dsimp only at hSw);go_simp;try with_reducible rfl)
      simp only[Act.put,zA,zB,zC]
      obtain⟨r0,r1,r2,r3,r4,r5,r6,r7,r8,r9,q0,q1,q2,q3,q4,q5,q6,q7,q8,q9⟩:=R9.out
      have NXR:xb≠w.heap.size:=zac
      have NYR:yb≠w.heap.size:=zac
      refine wpAnyH_ready (rs:=[7]) zab (by simp) (st7 (fun K hK=>?_) AllReadyH.nil)
      go_simp
      have XT:=zH ((((((((((X9.out.other NXR 0 none (zI zL 16)).other NXR 1 none (zI zL ta)).other NXR 2 none (.string ⟨#[]⟩)).other NXR 3 none (zI zL 0)).other NXR 4 none (zI zL 0)).other NXR 5 none (.bool false)).other NXR 6 none (zI zL 0)).other NXR 7 none (zI zL 0)).other NXR 8 none (zI zL 0)).other NXR 9 none (.slice (some ⟨aq,0,none⟩) 3 3))
      have YT:=zH ((((((((((Y9.out.other NYR 0 none (zI zL 16)).other NYR 1 none (zI zL ta)).other NYR 2 none (.string ⟨#[]⟩)).other NYR 3 none (zI zL 0)).other NYR 4 none (zI zL 0)).other NYR 5 none (.bool false)).other NYR 6 none (zI zL 0)).other NYR 7 none (zI zL 0)).other NYR 8 none (zI zL 0)).other NYR 9 none (.slice (some ⟨aq,0,none⟩) 3 3))
      refine hK.out _ _ ?_ (fun hHeld=>?_)
      ·exact⟨XT.out.c0,XT.out.c1,XT.out.c2,XT.out.c3,XT.out.c4,XT.out.c5,XT.out.c6,XT.out.c7,XT.out.c8,XT.out.c9,YT.out.c0,YT.out.c1,YT.out.c2,YT.out.c3,YT.out.c4,YT.out.c5,YT.out.c6,YT.out.c7,YT.out.c8,YT.out.c9⟩
      clear hK K
      try simp only[Act.put,zA,zB,zC]
      refine wpAnyH_done zab ?_ _
      go_wp2_with fail
      refine(?_:∀F:World,B10 F w.heap.size (zI zL 16) (zI zL ta) (.string ⟨#[]⟩) (zI zL 0) (zI zL 0) (.bool false) (zI zL 0) (zI zL 0) (zI zL 0) (.slice (some ⟨aq,0,none⟩) 3 3)->Sx w F b p cap qb ts En mb k5->Kfr (w.heap.size+1) V9 F->bodyPost _ _ _ _ _ F) _ (R9.out.put _ _ _ _ _ _ _ _ _ _) ((((((((((S9.out.other (Nat.le_refl _) 0 _).other (Nat.le_refl _) 1 _).other (Nat.le_refl _) 2 _).other (Nat.le_refl _) 3 _).other (Nat.le_refl _) 4 _).other (Nat.le_refl _) 5 _).other (Nat.le_refl _) 6 _).other (Nat.le_refl _) 7 _).other (Nat.le_refl _) 8 _).other (Nat.le_refl _) 9 _) (((((((((((Kfr.refl (w.heap.size+1) _).set zac 0 none _).set zac 1 none _).set zac 2 none _).set zac 3 none _).set zac 4 none _).set zac 5 none _).set zac 6 none _).set zac 7 none _).set zac 8 none _).set zac 9 none _)
      intro F hF hS hK
      obtain⟨y0,y1,y2,y3,y4,y5,y6,y7,y8,y9,-,-,-,-,-,-,-,-,-,-⟩:=hF
      refine bodyPost_ret (v:= .agg #[zI zL 16,zI zL ta,.string ⟨#[]⟩,zI zL 0,zI zL 0,.bool false,zI zL 0,zI zL 0,zI zL 0,.slice (some ⟨aq,0,none⟩) 3 3]) (by simp[results,Tryz.results48,go_sem,y0,y1,y2,y3,y4,y5,y6,y7,y8,y9]) rfl (ak.ok HO2.symm ⟨⟨16,ta,⟨#[]⟩,0,0,false,0,0,0,some ⟨aq,0,none⟩,3,3⟩,rfl,?_⟩ hS)
      rw[HAT.out]
      refine ah.keep hK (Nat.le_succ _) _ _ (dX (T:=36) [a1,a2,a3] [⟨xo,xa,xs,xn,xd,xf,xm,xr,xy,xq,xk,xc⟩,⟨yo,ya,ys,yn,yd,yf,ym,yr,yy,yq,yk,yc⟩,⟨zo,za,zs,zn,zd,zf,zm,zr,zy,zq,zk,zc⟩] 16 (ts.length-k) 3 rfl (by show _<=aq;omega) (fun i h h'=>?_) HB.out)
      match i,h with
      | 0,_=>exact N9.out
      | 1,_=>exact M9.out
      | 2,_=>exact L9.out
end
end Go.Proofs.YtnjfolljbfkojaaGreatDoor
