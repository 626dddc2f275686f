import Derived.Test.YtnjfolljbfkojaaGreatDoorMBB
set_option maxRecDepth 100000
set_option maxHeartbeats 20000000
namespace Go.Proofs.YtnjfolljbfkojaaGreatDoor
open Go.Value renaming int→zI
open Go.IntKind renaming i64→zL
open Go.Lib renaming hid→zH
open Go.RowKit Lx Pa
section
variable {b cap qb En mb:Nat} {p:Option Addr} {ts:List Tok}
theorem jW (k:Nat)(w:World)(h:Rd w b p cap qb ts En mb k):Calls Tryz.prog 80 #[.pointer (some ⟨b,0,none⟩)] w fun e w'=>ak w b p cap qb ts En mb (vX w.heap.size (ag ts En)) (af M0 (ts.drop k)) e w':=by
 have hbl:b<w.heap.size:=h.lt
 have hmx:=h.tk.max
 have KX:=zH (fun w h=>qV (b:=b) (cap:=cap) (qb:=qb) (En:=En) (mb:=mb) (p:=p) (ts:=ts) k w h)
 generalize hO:af M0 (ts.drop k)=O
 unfold af at hO
 have HO:=zH hO
 clear hO
 have S0:=zH ((Sx.start h).alloc (.cells #[zI zL 0,zI zL 0,.string ⟨#[]⟩,zI zL 0,zI zL 0,.bool false,zI zL 0,zI zL 0,zI zL 0,.slice none 0 0] 36))
 have R0:=zH (B10.new w (zI zL 0) (zI zL 0) (.string ⟨#[]⟩) (zI zL 0) (zI zL 0) (.bool false) (zI zL 0) (zI zL 0) (zI zL 0) (.slice none 0 0) 36)
 have NB:w.heap.size≠b:=zbd
 have B0:(w.alloc (.cells #[zI zL 0,zI zL 0,.string ⟨#[]⟩,zI zL 0,zI zL 0,.bool false,zI zL 0,zI zL 0,zI zL 0,.slice none 0 0] 36)).heap.size=w.heap.size+1:=by simp
 clear h
 go_enter Tryz.func80,Tryz.ntmps80
 go_wp2_with fail
 change Calls _ _ _ (w.alloc (.cells #[zI zL 0,zI zL 0,.string ⟨#[]⟩,zI zL 0,zI zL 0,.bool false,zI zL 0,zI zL 0,zI zL 0,.slice none 0 0] 36)) _
 generalize w.alloc (.cells #[zI zL 0,zI zL 0,.string ⟨#[]⟩,zI zL 0,zI zL 0,.bool false,zI zL 0,zI zL 0,zI zL 0,.slice none 0 0] 36)=V at *
 refine(KX.out V S0.out.rd).mono ?_
 generalize ho:rd M0 .ex (ts.drop k)=oo at HO KX
 cases oo with
 | er E q m =>
  rintro _ v2 ⟨k',rfl,hkp,hrd,hm⟩
  exact Az
 | ok n r =>
  rintro _ v2 ⟨_,k1,rfl,⟨⟨xo,xa,xs,xn,xd,xf,xm,xr,xy,xq,xk,xc⟩,rfl,hx⟩,hkp,hrd,rfl⟩
  have hsz:n.siz<=1000000:=by have:=qO ho;rw[List.length_drop] at this;omega
  have hsv:=hkp.size
  have bl:=(Below.refl v2.heap.size v2).alloc (Nat.le_refl _) (.cells #[zI zL xo,zI zL xa,.string xs,zI zL xn,zI zL xd,.bool xf,zI zL xm,zI zL xr,zI zL xy,.slice xq xk xc] 36)
  have S2:=zH ((S0.out.call hkp hrd).bel bl)
  have R2:=zH ((R0.out.call hkp NB).bel bl)
  have X2:=zH (B10.new v2 (zI zL xo) (zI zL xa) (.string xs) (zI zL xn) (zI zL xd) (.bool xf) (zI zL xm) (zI zL xr) (zI zL xy) (.slice xq xk xc) 36)
  have HN:=zH (NodeA.bel bl _ _ hx)
  have NBX:v2.heap.size≠b:=zac
  have HO2:=HO.out
  rw[bind_ok] at HO2
  clear bl hkp hrd hx S0 R0 KX ho HO
  unfold nv
  obtain⟨x0,x1,x2,x3,x4,x5,x6,x7,x8,x9,-,-,-,-,-,-,-,-,-,-⟩:=X2.out
  go_wp2_with fail
  generalize v2.alloc (.cells #[zI zL xo,zI zL xa,.string xs,zI zL xn,zI zL xd,.bool xf,zI zL xm,zI zL xr,zI zL xy,.slice xq xk xc] 36)=V2 at *
  cases hbg:big n with
  | true =>
   rw[hbg,if_pos rfl] at HO2
   have KH:=zH (wK n hsz hbg _ _ ⟨xo,xa,xs,xn,xd,xf,xm,xr,xy,xq,xk,xc⟩ _ HN.out)
   unfold nv at KH
   refine KH.out.mono ?_
   rintro _ v4 ⟨rfl,hb4⟩
   have S4:=zH (S2.out.bel hb4)
   go_wp2_with fail
   refine aa rfl (ak.er HO2.symm rfl ?_ S4.out)
   rw[List.length_drop]
  | false =>
   rw[hbg,if_neg (by simp)] at HO2
   have KH:=zH (uw n hsz hbg _ _ ⟨xo,xa,xs,xn,xd,xf,xm,xr,xy,xq,xk,xc⟩ _ HN.out)
   unfold nv at KH
   refine KH.out.mono ?_
   rintro _ v4 ⟨rfl,hb4⟩
   have S4:=zH (S2.out.bel hb4)
   have R4:=zH (R2.out.bel hb4)
   have X4:=zH (X2.out.bel hb4)
   have HN4:=zH (NodeA.bel hb4 _ _ HN.out)
   clear hb4 KH x0 x1 x2 x3 x4 x5 x6 x7 x8 x9
   obtain⟨x0,x1,x2,x3,x4,x5,x6,x7,x8,x9,-,-,-,-,-,-,-,-,-,-⟩:=X4.out
   obtain⟨r0,r1,r2,r3,r4,r5,r6,r7,r8,r9,q0,q1,q2,q3,q4,q5,q6,q7,q8,q9⟩:=R4.out
   go_wp2_with fail
   refine(?_:∀F:World,B10 F w.heap.size (zI zL xo) (zI zL xa) (.string xs) (zI zL xn) (zI zL xd) (.bool xf) (zI zL xm) (zI zL xr) (zI zL xy) (.slice xq xk xc)->Sx w F b p cap qb ts En mb k1->Kfr V.heap.size v4 F->bodyPost _ _ _ _ _ F) _ (R4.out.put _ _ _ _ _ _ _ _ _ _) ?_ ?_
   ·intro F hF hS hK
    obtain⟨y0,y1,y2,y3,y4,y5,y6,y7,y8,y9,-,-,-,-,-,-,-,-,-,-⟩:=hF
    exact bodyPost_ret (v:= .agg #[zI zL xo,zI zL xa,.string xs,zI zL xn,zI zL xd,.bool xf,zI zL xm,zI zL xr,zI zL xy,.slice xq xk xc]) (by simp[results,Tryz.results80,go_sem,y0,y1,y2,y3,y4,y5,y6,y7,y8,y9]) rfl (ak.ok HO2.symm ⟨⟨xo,xa,xs,xn,xd,xf,xm,xr,xy,xq,xk,xc⟩,rfl,ah.keep hK zac _ _ HN4.out⟩ hS)
   ·exact ED
   ·exact Cz
theorem lG (k:Nat)(w:World)(h:Rd w b p cap qb ts En mb k):Calls Tryz.prog 25 #[.pointer (some ⟨b,0,none⟩)] w fun e w'=>ak w b p cap qb ts En mb (vX w.heap.size (ag ts En)) (bJ M0 (ts.drop k)) e w':=by
 have hbl:b<w.heap.size:=h.lt
 have hmx:=h.tk.max
 have KX:=zH (fun w h=>qV (b:=b) (cap:=cap) (qb:=qb) (En:=En) (mb:=mb) (p:=p) (ts:=ts) k w h)
 generalize hO:bJ M0 (ts.drop k)=O
 unfold bJ at hO
 have HO:=zH hO
 clear hO
 have S0:=zH ((Sx.start h).alloc (.cells #[zI zL 0,zI zL 0,.string ⟨#[]⟩,zI zL 0,zI zL 0,.bool false,zI zL 0,zI zL 0,zI zL 0,.slice none 0 0] 36))
 have R0:=zH (B10.new w (zI zL 0) (zI zL 0) (.string ⟨#[]⟩) (zI zL 0) (zI zL 0) (.bool false) (zI zL 0) (zI zL 0) (zI zL 0) (.slice none 0 0) 36)
 have NB:w.heap.size≠b:=zbd
 have B0:(w.alloc (.cells #[zI zL 0,zI zL 0,.string ⟨#[]⟩,zI zL 0,zI zL 0,.bool false,zI zL 0,zI zL 0,zI zL 0,.slice none 0 0] 36)).heap.size=w.heap.size+1:=by simp
 clear h
 go_enter Tryz.func25,Tryz.ntmps25
 go_wp2_with fail
 change Calls _ _ _ (w.alloc (.cells #[zI zL 0,zI zL 0,.string ⟨#[]⟩,zI zL 0,zI zL 0,.bool false,zI zL 0,zI zL 0,zI zL 0,.slice none 0 0] 36)) _
 generalize w.alloc (.cells #[zI zL 0,zI zL 0,.string ⟨#[]⟩,zI zL 0,zI zL 0,.bool false,zI zL 0,zI zL 0,zI zL 0,.slice none 0 0] 36)=V at *
 refine(KX.out V S0.out.rd).mono ?_
 generalize ho:rd M0 .ex (ts.drop k)=oo at HO KX
 cases oo with
 | er E q m =>
  rintro _ v2 ⟨k',rfl,hkp,hrd,hm⟩
  exact Az
 | ok n r =>
  rintro _ v2 ⟨_,k1,rfl,⟨⟨xo,xa,xs,xn,xd,xf,xm,xr,xy,xq,xk,xc⟩,rfl,hx⟩,hkp,hrd,rfl⟩
  have hsz:n.siz<=1000000:=by have:=qO ho;rw[List.length_drop] at this;omega
  have hsv:=hkp.size
  have bl:=(Below.refl v2.heap.size v2).alloc (Nat.le_refl _) (.cells #[zI zL xo,zI zL xa,.string xs,zI zL xn,zI zL xd,.bool xf,zI zL xm,zI zL xr,zI zL xy,.slice xq xk xc] 36)
  have S2:=zH ((S0.out.call hkp hrd).bel bl)
  have R2:=zH ((R0.out.call hkp NB).bel bl)
  have X2:=zH (B10.new v2 (zI zL xo) (zI zL xa) (.string xs) (zI zL xn) (zI zL xd) (.bool xf) (zI zL xm) (zI zL xr) (zI zL xy) (.slice xq xk xc) 36)
  have HN:=zH (NodeA.bel bl _ _ hx)
  have NBX:v2.heap.size≠b:=zac
  have HO2:=HO.out
  rw[bind_ok] at HO2
  clear bl hkp hrd hx S0 R0 KX ho HO
  unfold nv
  go_wp2_with fail
  generalize v2.alloc (.cells #[zI zL xo,zI zL xa,.string xs,zI zL xn,zI zL xd,.bool xf,zI zL xm,zI zL xr,zI zL xy,.slice xq xk xc] 36)=V2 at *
  refine(iF _ S2.out.rd).mono ?_
  rintro _ v3 ⟨rfl,hb3⟩
  have S3:=zH (S2.out.bel hb3)
  have R3:=zH (R2.out.bel hb3)
  have X3:=zH (X2.out.bel hb3)
  have HN3:=zH (NodeA.bel hb3 _ _ HN.out)
  have hkl:=S3.out.rd.kl
  rw[List.length_drop] at HO2
  clear hb3 S2 R2 X2 HN
  by_cases he:k1=ts.length
  ·rw[if_neg zac] at HO2
   rw[decide_eq_true he]
   obtain⟨x0,x1,x2,x3,x4,x5,x6,x7,x8,x9,-,-,-,-,-,-,-,-,-,-⟩:=X3.out
   go_wp2_with fail
   cases hbg:big n with
   | true =>
    rw[hbg,if_pos rfl] at HO2
    have KH:=zH (wK n hsz hbg _ _ ⟨xo,xa,xs,xn,xd,xf,xm,xr,xy,xq,xk,xc⟩ _ HN3.out)
    unfold nv at KH
    refine KH.out.mono ?_
    rintro _ v4 ⟨rfl,hb4⟩
    have S4:=zH (S3.out.bel hb4)
    go_wp2_with fail
    exact aa rfl (ak.er HO2.symm rfl rfl S4.out)
   | false =>
    rw[hbg,if_neg (by simp)] at HO2
    have KH:=zH (uw n hsz hbg _ _ ⟨xo,xa,xs,xn,xd,xf,xm,xr,xy,xq,xk,xc⟩ _ HN3.out)
    unfold nv at KH
    refine KH.out.mono ?_
    rintro _ v4 ⟨rfl,hb4⟩
    have S4:=zH (S3.out.bel hb4)
    have R4:=zH (R3.out.bel hb4)
    have X4:=zH (X3.out.bel hb4)
    have HN4:=zH (NodeA.bel hb4 _ _ HN3.out)
    clear hb4 KH x0 x1 x2 x3 x4 x5 x6 x7 x8 x9
    obtain⟨x0,x1,x2,x3,x4,x5,x6,x7,x8,x9,-,-,-,-,-,-,-,-,-,-⟩:=X4.out
    obtain⟨r0,r1,r2,r3,r4,r5,r6,r7,r8,r9,q0,q1,q2,q3,q4,q5,q6,q7,q8,q9⟩:=R4.out
    go_wp2_with fail
    refine(?_:∀F:World,B10 F w.heap.size (zI zL xo) (zI zL xa) (.string xs) (zI zL xn) (zI zL xd) (.bool xf) (zI zL xm) (zI zL xr) (zI zL xy) (.slice xq xk xc)->Sx w F b p cap qb ts En mb k1->Kfr V.heap.size v4 F->bodyPost _ _ _ _ _ F) _ (R4.out.put _ _ _ _ _ _ _ _ _ _) ?_ ?_
    ·intro F hF hS hK
     obtain⟨y0,y1,y2,y3,y4,y5,y6,y7,y8,y9,-,-,-,-,-,-,-,-,-,-⟩:=hF
     exact bodyPost_ret (v:= .agg #[zI zL xo,zI zL xa,.string xs,zI zL xn,zI zL xd,.bool xf,zI zL xm,zI zL xr,zI zL xy,.slice xq xk xc]) (by simp[results,Tryz.results25,go_sem,y0,y1,y2,y3,y4,y5,y6,y7,y8,y9]) rfl (ak.ok HO2.symm ⟨⟨xo,xa,xs,xn,xd,xf,xm,xr,xy,xq,xk,xc⟩,rfl,ah.keep hK zac _ _ HN4.out⟩ hS)
    ·exact ED
    ·exact Cz
  ·rw[if_pos zac] at HO2
   rw[decide_eq_false he]
   go_wp2_with fail
   refine(dI _ S3.out.rd).mono ?_
   rintro _ v4 ⟨rfl,hb4⟩
   have S4:=zH (S3.out.bel hb4)
   go_wp2_with fail
   rw[<-HO2]
   exact aa rfl (ak.bad rfl S4.out)
end
def kY (full:Bool)(pl:Nat)(ts:List Tok):Out Unit:=if isW sSc ts=true then (if full=true then .er 2 pl ts.length else .ok () ts.tail) else bad ts
section
variable {b cap qb En mb:Nat} {p:Option Addr} {ts:List Tok}
theorem lF {k:Nat}(full:Bool)(pl:Nat)(w:World)(h:Rd w b p cap qb ts En mb k):Calls Tryz.prog 79 #[.pointer (some ⟨b,0,none⟩),zI zL (ag ts En pl),.bool full] w fun e w'=>ak w b p cap qb ts En mb vU (kY full pl (ts.drop k)) e w':=by
 have KP:=zH (aC w h)
 have S0:=zH (Sx.start h)
 have hf:=dh
 have hk1:=dB h.kl h.tk.max
 have HL:Hid ((pk ts En k).t=sSc->k<ts.length):=fun e=>uQ (En:=En) (by rw[e];decide)
 unfold kY
 rw[qF (En:=En) h.ok zah,List.tail_drop,List.length_drop]
 clear h
 obtain⟨at0,hat⟩:∃z,z=ag ts En pl:=⟨_,rfl⟩
 rw[<-hat]
 have HAT:=zH hat
 clear hat
 generalize pk ts En k=t at *
 obtain⟨tk,ta,tt,tn,td⟩:=t
 unfold fI at KP
 by_cases hx:tt=sSc
 ·have hl:=HL.out hx
  subst hx
  have e1:((bs sSc).toList==[59])=true:=by rw[aM];rfl
  have e2:(sSc==sSc)=true:=by simp
  rw[e2,if_pos rfl]
  clear e2 HL
  cases full
  ·rw[if_neg (by simp)]
   go_enter Tryz.func79,Tryz.ntmps79
   go_wp2_with fail
   refine KP.out.mono ?_
   rintro _ v ⟨rfl,hb⟩
   have S1:=zH (S0.out.bel hb)
   clear hb KP S0
   obtain⟨-,c1,-,-,f1,-,-,-,-,-,-⟩:=S1.out.rd
   go_wp2_with fail
   go_end0
   exact ak.ok rfl rfl (S1.out.next hl)
  ·rw[if_pos rfl]
   go_enter Tryz.func79,Tryz.ntmps79
   go_wp2_with fail
   refine KP.out.mono ?_
   rintro _ v ⟨rfl,hb⟩
   have S1:=zH (S0.out.bel hb)
   clear hb KP S0
   go_wp2_with fail
   refine(lD _ _ _).mono ?_
   rintro _ _ ⟨rfl,rfl⟩
   go_wp2_with fail
   exact aa rfl (ak.er rfl HAT.out rfl S1.out)
 ·have e1:((bs tt).toList==[59])=false:=by rw[aM];simpa[sSc] using hx
  have e2:(tt==sSc)=false:=by simpa using hx
  rw[e2,if_neg (by simp)]
  clear e2 HL
  go_enter Tryz.func79,Tryz.ntmps79
  go_wp2_with fail
  refine KP.out.mono ?_
  rintro _ v ⟨rfl,hb⟩
  have S1:=zH (S0.out.bel hb)
  clear hb KP S0
  exact Dt
theorem nH (k:Nat)(w:World)(h:Rd w b p cap qb ts En mb k):Calls Tryz.prog 37 #[.pointer (some ⟨b,0,none⟩)] w fun e w'=>e = .returned (.tuple #[])/\∃k',Kept b w w'/\Rd w' b p cap qb ts En mb k'/\ts.drop k'=skip (ts.drop k):=by
 have hok:=h.ok
 have hmx:=h.tk.max
 have KE:=zH (fun k w h=>iF (b:=b) (cap:=cap) (qb:=qb) (En:=En) (mb:=mb) (k:=k) (p:=p) (ts:=ts) w h)
 have KS:=zH (fun k w h=>aA (b:=b) (cap:=cap) (qb:=qb) (En:=En) (mb:=mb) (k:=k) (p:=p) (ts:=ts) sSc zah w h)
 have S0:=zH (Sx.start h)
 generalize hR:skip (ts.drop k)=R
 have HR:=zH hR
 clear h hR
 go_enter Tryz.func37,Tryz.ntmps37
 go_wp2_with fail
 go_loopg [] ts.length (fun g wr=>∃k':Nat,ts.length-k'<=g/\Hid (Sx w wr b p cap qb ts En mb k')/\Hid (skip (ts.drop k')=R))
 case atStart=>exact⟨k,zac,S0,HR⟩
 case round =>
  clear S0 HR
  obtain⟨k',hg,S,HR⟩:=hrel
  have hkl:=S.out.rd.kl
  by_cases he:k'=ts.length
  ·have K1:=zH (KE.out k' wr S.out.rd)
   rw[decide_eq_true he] at K1
   have HR2:=HR.out
   rw[List.drop_eq_nil_of_le zac] at HR2
   go_wp2_with fail
   refine K1.out.mono ?_
   rintro _ v ⟨rfl,hb⟩
   have S1:=zH (S.out.bel hb)
   go_wp2_with fail
   go_end0
   exact⟨rfl,k',S1.out.kp,S1.out.rd,by rw[List.drop_eq_nil_of_le zac,<-HR2];rfl⟩
  ·have K1:=zH (KE.out k' wr S.out.rd)
   rw[decide_eq_false he] at K1
   have hlt:k'<ts.length:=zac
   have HR2:=HR.out
   rw[gQ (En:=En) zac,skip] at HR2
   have hT:isT sSc (pk ts En k')=isW sSc (ts.drop k'):=by rw[gQ (En:=En) (show k'<ts.length from zac)];rfl
   rw[hT] at HR2
   have hk1:=dB hkl hmx
   clear hT
   go_wp2_with fail
   refine K1.out.mono ?_
   rintro _ v ⟨rfl,hb⟩
   have S1:=zH (S.out.bel hb)
   clear hb K1 S
   have K2:=zH (KS.out k' v S1.out.rd)
   cases hw:isW sSc (ts.drop k')
   ·rw[hw,if_neg (by simp)] at HR2
    rw[hw,if_neg (by simp)] at K2
    go_wp2_with fail
    refine K2.out.mono ?_
    rintro _ v2 ⟨rfl,hkp,hrd⟩
    have S2:=zH (S1.out.call hkp hrd)
    clear hkp hrd K2 S1
    obtain⟨-,c1,-,-,f1,-,-,-,-,-,-⟩:=S2.out.rd
    go_wp2_with fail
    go_roundg (ts.length-(k'+1))
    case measure=>omega
    case rel=>exact⟨k'+1,Nat.le_refl _,S2.out.next (k':=k'+1) hlt,HR2⟩
   ·rw[hw,if_pos rfl] at HR2
    rw[hw,if_pos rfl] at K2
    go_wp2_with fail
    refine K2.out.mono ?_
    rintro _ v2 ⟨rfl,hkp,hrd⟩
    have S2:=zH (S1.out.call hkp hrd)
    go_wp2_with fail
    go_end0
    exact⟨rfl,k'+1,S2.out.kp,S2.out.rd,HR2⟩
end
def dV (ofs:Nat->Int)(d:Decl):List Value:=[.string (bs d.name),.bool (uF d.u),zI zL (uM d.u),zI zL (uA d.u),zI zL (uD d.u),zI zL d.lo,zI zL d.hi,zI zL (ofs d.pl)]
def rV (ofs:Nat->Int)(r:Rule)(x y:NV):List Value:=[.string (bs r.name),zI zL r.ver,zI zL (r.kind:Nat),.string (bs r.act),zI zL r.fr,zI zL r.un,zI zL r.known]++x.cells++y.cells++[zI zL (ofs r.pl)]
def gV (ofs:Nat->Int)(e:Int×Nat):List Value:=[zI zL (ofs e.2),zI zL e.1]
def rFlat (ofs:Nat->Int):List Rule->List (NV×NV)->List Value
 | r::rs,x::xs=>rV ofs r x.1 x.2++rFlat ofs rs xs
 | _,_=>[]
theorem wm (ofs:Nat->Int)(r:Rule)(x:NV×NV)(rs:List Rule):∀xs:List (NV×NV),xs.length=rs.length->rFlat ofs (rs++[r]) (xs++[x])=rFlat ofs rs xs++rV ofs r x.1 x.2:=by
 induction rs with
 | nil =>
  intro xs h
  cases xs with
  | nil=>show rV ofs r x.1 x.2++[]=[]++rV ofs r x.1 x.2;rw[List.append_nil,List.nil_append]
  | cons _ _=>cases h
 | cons r' rs ih =>
  intro xs h
  cases xs with
  | nil=>cases h
  | cons x' xs =>
   show rV ofs r' x'.1 x'.2++rFlat ofs (rs++[r]) (xs++[x])=(rV ofs r' x'.1 x'.2++rFlat ofs rs xs)++rV ofs r x.1 x.2
   rw[ih xs (Nat.succ.inj h),List.append_assoc]
theorem zD:(Tryz.prog.info? 45).map (fun i=>(i.zero.map (·.cells.size),i.size,decide (i.bytes<=1000)))=some (some 8,8,true):=zab
theorem zR:(Tryz.prog.info? 49).map (fun i=>(i.zero.map (·.cells.size),i.size,decide (i.bytes<=1000)))=some (some 28,28,true):=zab
theorem nR:(Tryz.prog.info? 53).map (fun i=>(i.zero.map (·.cells.size),i.size,decide (i.bytes<=1000)))=some (some 2,2,true):=zab
theorem dG (sl E size:Nat)(hsl:Tryz.prog.underlying sl=some (.slice E))(hi:(Tryz.prog.info? E).map (fun i=>(i.zero.map (·.cells.size),i.size,decide (i.bytes<=1000)))=some (some size,size,true))(hs:0<size)
  (w:World)(base:Nat)(ty:TypeId)(v:Value)(n:Nat)(xs:List Value)(hown:w.ownsRow base E size v n xs)(b:Nat)(news:List Value)(hl:news.length=size)(hc:∀j u,news[j]? = some u->w.cell? ⟨b,j,none⟩=some u)(h1:∀u∈news,u.oneCell'=true)(hn:n<=1000000)(hbase:base<=w.heap.size) :
  ∃v' w',(Builtin.append_ #[sl,sl] ty #[v,.slice (some ⟨b,0,none⟩) 1 1]).run Tryz.prog w = .ok v' w'/\w'.ownsRow base E size v' (n+1) (xs++news)/\w.grownBy w' v.ownBlock/\(v'.ownBlock=v.ownBlock\/v'.ownBlock=some w.heap.size):=by
 obtain⟨i,hi,hz⟩:=Option.map_eq_some_iff.1 hi
 simp only[Prod.mk.injEq,decide_eq_true_eq] at hz
 obtain⟨hz1,hz2,hz3⟩:=hz
 obtain⟨z,hz,hzs⟩:=Option.map_eq_some_iff.1 hz1
 obtain⟨v',w',hr,h3,h4,_,h6⟩:=run_append_own_at (P:=Tryz.prog) w base sl ty E i z size i.bytes hsl hi hz hz2 rfl hzs hs v n xs hown ⟨b,0,none⟩ 1 1 news (by rw[hl];omega)
  (fun j u hu=>by rw[addr_add,Nat.zero_add];exact hc j u hu) h1 (by unfold maxLen;omega) (by
   have:(n+1)*i.bytes<=1000001*1000:=Nat.mul_le_mul zac hz3
   omega) hbase
 exact⟨v',w',hr,h3,h4,h6⟩
def NBl (base gx:Nat)(vd vr:Value):Nat->Prop:=fun j=>base<=j/\vd.ownBlock≠some j/\vr.ownBlock≠some j/\j≠gx
structure Cx (w:World) (base cb gx:Nat) (ofs:Nat->Int) (ds:List Decl) (rs:List Rule) (vd vr:Value) (ns:List (NV×NV)):Prop where
 at2:At2 w cb vd vr
 dr:w.ownsRow base 45 8 vd ds.length (ds.flatMap (dV ofs))
 rr:w.ownsRow base 49 28 vr rs.length (rFlat ofs rs ns)
 nl:ns.length=rs.length
 nd:∀(i:Nat) (h:i<rs.length) (h':i<ns.length),NodeA w (NBl base gx vd vr) ofs rs[i].whn ns[i].1/\NodeA w (NBl base gx vd vr) ofs rs[i].give ns[i].2
 dj:∀j,vd.ownBlock=some j->vr.ownBlock≠some j
 lt:cb<base
section
variable {w w':World} {base cb gx:Nat} {ofs:Nat->Int} {ds:List Decl} {rs:List Rule} {vd vr:Value} {ns:List (NV×NV)}
theorem aR {E size n:Nat}{v:Value}{xs:List Value}(h:w.ownsRow base E size v n xs)(hb:∀j,v.ownBlock=some j->j<w.heap.size->w'.heap[j]? = w.heap[j]?):w'.ownsRow base E size v n xs:=by
 refine⟨h.1,?_⟩
 rcases h.2 with h0|⟨g,cap,cur,rfl,h1,h2,h3⟩
 ·exact .inl h0
 ·refine .inr ⟨g,cap,cur,rfl,h1,?_,h3⟩
  rw[hb g rfl (Array.getElem?_eq_some_iff.1 h2).1];exact h2
theorem At2.heap {r:Nat}{x y:Value}(h:At2 w r x y)(hb:w'.heap[r]? = w.heap[r]?):At2 w' r x y :=
 ⟨(World.cell?_of_block (w:=w) (a:=⟨r,0,none⟩) hb).trans h.c0,(World.cell?_of_block (w:=w) (a:=⟨r,1,none⟩) hb).trans h.c1,(World.frozen?_of_block (w:=w) (a:=⟨r,0,none⟩) hb).trans h.f0,(World.frozen?_of_block (w:=w) (a:=⟨r,1,none⟩) hb).trans h.f1⟩
theorem Cx.keep (h:Cx w base cb gx ofs ds rs vd vr ns)(hs:w.heap.size<=w'.heap.size)(hb:∀j,j<w.heap.size->(j=cb\/base<=j)->w'.heap[j]? = w.heap[j]?):Cx w' base cb gx ofs ds rs vd vr ns :=
 ⟨h.at2.heap (hb cb h.at2.lt (.inl rfl)),aR h.dr (fun j hj hj2=>hb j hj2 (.inr (h.dr.lt j hj).1)),aR h.rr (fun j hj hj2=>hb j hj2 (.inr (h.rr.lt j hj).1)),h.nl,
  fun i h1 h2=>⟨NodeA.keep hs (fun j hj hj2=>hb j hj2 (.inr hj.1)) (fun _ h _=>h) _ _ (h.nd i h1 h2).1,NodeA.keep hs (fun j hj hj2=>hb j hj2 (.inr hj.1)) (fun _ h _=>h) _ _ (h.nd i h1 h2).2⟩,h.dj,h.lt⟩
theorem Cx.app {vg:Value}{gx':Nat}(h:Cx w base cb gx ofs ds rs vd vr ns)(hg:w.grownBy w' vg.ownBlock)(hvg:∀j,vg.ownBlock=some j->j=gx/\base<=j)(hd:vd.ownBlock≠some gx)(hr:vr.ownBlock≠some gx)(hx:gx'=gx\/gx'=w.heap.size):Cx w' base cb gx' ofs ds rs vd vr ns:=by
 have hlt:=h.lt
 have kb:∀j,j<w.heap.size->(j=cb\/(base<=j/\j≠gx))->w'.heap[j]? = w.heap[j]?:=fun j hj hj2=>hg.block j hj (fun e=>by
  have:=hvg j e.symm
  rcases hj2 with rfl|⟨_,h2⟩
  ·omega
  ·exact h2 this.1)
 have kn:∀{t:Tree} {x:NV},NodeA w (NBl base gx vd vr) ofs t x->NodeA w' (NBl base gx' vd vr) ofs t x:=fun hx'=>NodeA.keep hg.size (fun j hj hj2=>kb j hj2 (.inr ⟨hj.1,hj.2.2.2⟩)) (fun j hj hj2=>⟨hj.1,hj.2.1,hj.2.2.1,by
  rcases hx with rfl|rfl
  ·exact hj.2.2.2
  ·omega⟩) _ _ hx'
 exact⟨h.at2.heap (kb cb h.at2.lt (.inl rfl)),aR h.dr (fun j hj hj2=>kb j hj2 (.inr ⟨(h.dr.lt j hj).1,fun e=>hd (e▸hj)⟩)),aR h.rr (fun j hj hj2=>kb j hj2 (.inr ⟨(h.rr.lt j hj).1,fun e=>hr (e▸hj)⟩)),h.nl,fun i h1 h2=>⟨kn (h.nd i h1 h2).1,kn (h.nd i h1 h2).2⟩,h.dj,h.lt⟩
theorem Cx.addD {d:Decl}{v':Value}(h:Cx w base cb gx ofs ds rs vd vr ns)(hr:w'.ownsRow base 45 8 v' (ds.length+1) (ds.flatMap (dV ofs)++dV ofs d))(hg:w.grownBy w' vd.ownBlock)(ho:v'.ownBlock=vd.ownBlock\/v'.ownBlock=some w.heap.size) :
  Cx (w'.setCell ⟨cb,0,none⟩ v') base cb gx ofs (ds++[d]) rs v' vr ns:=by
 have hcb:=h.at2.lt
 have hne:some cb≠vd.ownBlock:=fun e=>by have:=(h.dr.lt cb e.symm).1;have:=h.lt;omega
 have h2:=h.at2.heap (hg.block cb hcb hne)
 have hv':∀j,v'.ownBlock=some j->base<=j/\j<w'.heap.size:=fun j hj=>hr.lt j hj
 have hset:∀j,j≠cb->(w'.setCell ⟨cb,0,none⟩ v').heap[j]? = w'.heap[j]?:=fun j hj=>Below.heap_setCell _ _ _ _ hj
 have hlt:=h.lt
 refine⟨⟨by simp[go_sem,h2.c0],?_,by rw[World.frozen?_setCell];exact h2.f0,by rw[World.frozen?_setCell];exact h2.f1⟩,?_,?_,h.nl,?_,?_,h.lt⟩
 ·rw[World.cell?_setCell_other _ _ _ _ (by intro e;injection e with _ e2 _;cases e2)];exact h2.c1
 ·have:=aR (w':=w'.setCell ⟨cb,0,none⟩ v') hr (fun j hj _=>hset j (by have:=(hv' j hj).1;omega))
  simpa using this
 ·refine aR (w:=w') (aR h.rr (fun j hj hj2=>hg.block j hj2 (fun e=>h.dj j e.symm hj))) (fun j hj _=>hset j (by have:=(h.rr.lt j hj).1;omega))
 ·intro i h1 h3
  have hk:∀{t:Tree} {x:NV},NodeA w (NBl base gx vd vr) ofs t x->NodeA (w'.setCell ⟨cb,0,none⟩ v') (NBl base gx v' vr) ofs t x:=fun hx =>
   NodeA.keep (by simpa[World.setCell] using hg.size) (fun j hj hj2=>(hset j (by have:=hj.1;omega)).trans (hg.block j hj2 (fun e=>hj.2.1 e.symm)))
    (fun j hj hj2=>⟨hj.1,fun e=>ho.elim (fun ho=>by rw[ho] at e;exact hj.2.1 e) (fun ho=>by rw[ho] at e;injection e with e;omega),hj.2.2⟩) _ _ hx
  exact⟨hk (h.nd i h1 h3).1,hk (h.nd i h1 h3).2⟩
 ·intro j hj hj2
  rcases ho with ho|ho
  ·exact h.dj j (by rw[<-ho];exact hj) hj2
  ·rw[ho] at hj
   injection hj with hj
   have:=(h.rr.lt j hj2).2
   omega
theorem Cx.addR {r:Rule}{x y:NV}{v':Value}(h:Cx w base cb gx ofs ds rs vd vr ns)(hr:w'.ownsRow base 49 28 v' (rs.length+1) (rFlat ofs rs ns++rV ofs r x y))(hg:w.grownBy w' vr.ownBlock)(ho:v'.ownBlock=vr.ownBlock\/v'.ownBlock=some w.heap.size)
  (hx:NodeA w (NBl base gx vd vr) ofs r.whn x)(hy:NodeA w (NBl base gx vd vr) ofs r.give y) :
  Cx (w'.setCell ⟨cb,1,none⟩ v') base cb gx ofs ds (rs++[r]) vd v' (ns++[(x,y)]):=by
 have hcb:=h.at2.lt
 have hne:some cb≠vr.ownBlock:=fun e=>by have:=(h.rr.lt cb e.symm).1;have:=h.lt;omega
 have h2:=h.at2.heap (hg.block cb hcb hne)
 have hv':∀j,v'.ownBlock=some j->base<=j/\j<w'.heap.size:=fun j hj=>hr.lt j hj
 have hset:∀j,j≠cb->(w'.setCell ⟨cb,1,none⟩ v').heap[j]? = w'.heap[j]?:=fun j hj=>Below.heap_setCell _ _ _ _ hj
 have hlt:=h.lt
 have hk:∀{t:Tree} {x:NV},NodeA w (NBl base gx vd vr) ofs t x->NodeA (w'.setCell ⟨cb,1,none⟩ v') (NBl base gx vd v') ofs t x:=fun hx =>
  NodeA.keep (by simpa[World.setCell] using hg.size) (fun j hj hj2=>(hset j (by have:=hj.1;omega)).trans (hg.block j hj2 (fun e=>hj.2.2.1 e.symm)))
   (fun j hj hj2=>⟨hj.1,hj.2.1,(fun e=>ho.elim (fun ho=>by rw[ho] at e;exact hj.2.2.1 e) (fun ho=>by rw[ho] at e;injection e with e;omega)),hj.2.2.2⟩) _ _ hx
 refine⟨⟨?_,by simp[go_sem,h2.c1],by rw[World.frozen?_setCell];exact h2.f0,by rw[World.frozen?_setCell];exact h2.f1⟩,?_,?_,by simp[h.nl],?_,?_,h.lt⟩
 ·rw[World.cell?_setCell_other _ _ _ _ (by intro e;injection e with _ e2 _;cases e2)];exact h2.c0
 ·refine aR (w:=w') (aR h.dr (fun j hj hj2=>hg.block j hj2 (fun e=>h.dj j hj e.symm))) (fun j hj _=>hset j (by have:=(h.dr.lt j hj).1;omega))
 ·have:=aR (w':=w'.setCell ⟨cb,1,none⟩ v') hr (fun j hj _=>hset j (by have:=(hv' j hj).1;omega))
  rw[wm _ _ _ _ _ h.nl]
  simpa using this
 ·intro i h1 h3
  by_cases hi:i<rs.length
  ·rw[List.getElem_append_left hi,List.getElem_append_left (by rw[h.nl];exact hi)]
   exact⟨hk (h.nd i hi (by rw[h.nl];exact hi)).1,hk (h.nd i hi (by rw[h.nl];exact hi)).2⟩
  ·have e:i=rs.length:=by simp at h1;omega
   subst e
   have e1:(rs++[r])[rs.length]'h1=r:=by simp
   have e2:(ns++[(x,y)])[rs.length]'h3=(x,y):=by
    have hn:=h.nl
    simp[<-hn]
   rw[e1,e2]
   exact⟨hk hx,hk hy⟩
 ·intro j hj hj2
  rcases ho with ho|ho
  ·exact h.dj j hj (by rw[<-ho];exact hj2)
  ·rw[ho] at hj2
   injection hj2 with hj2
   have:=(h.dr.lt j hj).2
   omega
end
def aH (w:World)(b:Nat)(l:List Value):Prop:=∀(j:Nat) (v:Value),l[j]? = some v->w.cell? ⟨b,j,none⟩=some v/\w.frozen? ⟨b,j,none⟩=false
theorem aH.new (w:World)(l:List Value)(T:Nat):aH (w.alloc (.cells l.toArray T)) w.heap.size l:=fun j v hv=>⟨by rw[cell_of_row _ _ _ _ _ _ (heap_alloc_new w _),List.getElem?_toArray];exact hv,by simp⟩
theorem aH.of {w w1:World}{b:Nat}{l:List Value}(h:aH w b l)(hb:w1.heap[b]? = w.heap[b]?):aH w1 b l:=fun j v hv =>
 ⟨(World.cell?_of_block (w:=w) (a:=⟨b,j,none⟩) hb).trans (h j v hv).1,(World.frozen?_of_block (w:=w) (a:=⟨b,j,none⟩) hb).trans (h j v hv).2⟩
theorem aH.set {w:World}{b:Nat}{l:List Value}(h:aH w b l)(i:Nat)(y:Value):aH (w.setCell ⟨b,i,none⟩ y) b (l.set i y):=fun j v hv=>by
 rw[List.getElem?_set] at hv
 split at hv
 ·rename_i e
  subst e
  split at hv
  ·rename_i hl
   obtain⟨h1,h2⟩:=h i l[i] (List.getElem?_eq_getElem hl)
   injection hv with hv
   subst hv
   exact⟨World.cell?_setCell_same _ _ _ h1,by rw[World.frozen?_setCell];exact h2⟩
  ·cases hv
 ·rename_i e
  obtain⟨h1,h2⟩:=h j v hv
  exact⟨by rw[World.cell?_setCell_other _ _ _ _ (by intro q;injection q with _ q _;omega)];exact h1,by rw[World.frozen?_setCell];exact h2⟩
theorem aH.other {w:World}{b r:Nat}{l:List Value}(h:aH w b l)(hr:b≠r)(o:Nat)(y:Value):aH (w.setCell ⟨r,o,none⟩ y) b l:=h.of (Below.heap_setCell _ _ _ _ hr)
theorem aH.lt {w:World}{b:Nat}{l:List Value}(h:aH w b l)(hl:0<l.length):b<w.heap.size:=World.block_lt_of_cell? _ _ (h 0 l[0] (List.getElem?_eq_getElem hl)).1
theorem aH.bel {w w1:World}{b:Nat}{l:List Value}(h:aH w b l)(hl:0<l.length)(hB:RowKit.Below w.heap.size w w1):aH w1 b l:=h.of (hB.block b (h.lt hl))
theorem aH.call {w w1:World}{b r:Nat}{l:List Value}(h:aH w r l)(hl:0<l.length)(hk:Kept b w w1)(hr:r≠b):aH w1 r l:=h.of (hk.block r (h.lt hl) hr)
structure KeptS (S:Nat->Prop) (w w':World):Prop where
 os:w'.os=w.os
 tape:w'.tape=w.tape
 output:w'.output=w.output
 size:w.heap.size<=w'.heap.size
 block:∀k,k<w.heap.size->¬S k->w'.heap[k]? = w.heap[k]?
theorem wV {P:Program}{sl:Nat}{o:Oper}{a:Act}{w w':World}{K:Act->World->Prop}{Q:Exit->Act->World->Prop}{v y v':Value}(s z:Operand)
  (ho:o.op = .call { callee:= .builtin .append,args:=#[s,z],argTypes:=#[sl,sl] })(hs:a.eval s=v)(hz:a.eval z=y)(hr:(Builtin.append_ #[sl,sl] o.type #[v,y]).run P w = .ok v' w')(h:K (a.put o.dst v') w'):Oper.wp P o a w K Q:=by
 unfold Oper.wp execOp
 simp only[ho,resolve,invoke,builtin,Sem.run_bind,Sem.run_pure,Result.andThen_ok,List.map_toArray,List.map_cons,List.map_nil,hs,hz,hr]
 exact h
theorem aF {w:World}{base E size n:Nat}{v:Value}{xs:List Value}(h:w.ownsRow base E size v n xs):∃q cap,v = .slice q n cap:=by
 rcases h.2 with ⟨rfl,rfl⟩|⟨g,cap,cur,rfl,_⟩
 ·exact⟨none,0,rfl⟩
 ·exact⟨_,cap,rfl⟩
def uS (full:Bool)(pl:Nat)(ts:List Tok):Out Decl:=(nameO ts).bind fun nm r2=>(need sCo r2).bind fun _ r3=>(unitO r3).bind fun u r4=>(ae r4).bind fun lo r5=>(need kTo r5).bind fun _ r6=>(ae r6).bind fun hi r7=>(kY full pl r7).bind fun _ r8=> .ok ⟨nm,u,lo,hi,pl⟩ r8
def dW (w0:World)(b:Nat)(p:Option Addr)(cap qb:Nat)(ts:List Tok)(En mb base cb gx:Nat)(vd vr:Value)(ds:Pa.Item->List Decl)(rs:Pa.Item->List Rule)(o:Out Pa.Item)(e:Ending)(w':World):Prop :=
 match o with
 | .ok d r=>∃k' vd' vr' ns',e = .returned (.tuple #[])/\Rd w' b p cap qb ts En mb k'/\r=ts.drop k'/\Cx w' base cb gx (ag ts En) (ds d) (rs d) vd' vr' ns'/\KeptS (fun j=>j=b\/j=cb\/vd.ownBlock=some j\/vr.ownBlock=some j) w0 w' /\
   (vd'.ownBlock=vd.ownBlock\/∃j,vd'.ownBlock=some j/\w0.heap.size<=j)/\(vr'.ownBlock=vr.ownBlock\/∃j,vr'.ownBlock=some j/\w0.heap.size<=j)
 | .er E q m=>∃k',e = .panicked (gK E (ag ts En q))/\Kept b w0 w'/\Rd w' b p cap qb ts En mb k'/\m=ts.length-k'
def wI (ds:List Decl):Pa.Item->List Decl
 | Pa.Item.fact d=>ds++[d]
 | Pa.Item.rule _=>ds
def wo (rs:List Rule):Pa.Item->List Rule
 | Pa.Item.fact _=>rs
 | Pa.Item.rule d=>rs++[d]
section
variable {b cap qb En mb base cb gx:Nat} {p:Option Addr} {ts:List Tok} {ds:List Decl} {rs:List Rule} {vd vr:Value} {ns:List (NV×NV)}
theorem dW.er {w w':World}{D:Pa.Item->List Decl}{R:Pa.Item->List Rule}{o:Out Pa.Item}{E a:Int}{q m k':Nat}(ho:o = .er E q m)(ha:a=ag ts En q)(hm:m=ts.length-k')(h:Sx w w' b p cap qb ts En mb k'):dW w b p cap qb ts En mb base cb gx vd vr D R o (.panicked (gK E a)) w':=by
 subst ho;subst ha;exact⟨k',rfl,h.kp,h.rd,hm⟩
theorem yj (full:Bool)(pl k:Nat)(w:World)(h:Rd w b p cap qb ts En mb k)(hC:Cx w base cb gx (ag ts En) ds rs vd vr ns)(hfl:((ds.length:Int)==12)=full)(hbb:b<base/\b≠cb/\mb<base/\mb≠cb/\(0<ts.length->qb<base/\qb≠cb)/\base<=w.heap.size)(hdl:ds.length<=1000) :
  Calls Tryz.prog 57 #[.pointer (some ⟨b,0,none⟩),.pointer (some ⟨cb,0,none⟩),zI zL (ag ts En pl)] w fun e w'=>dW w b p cap qb ts En mb base cb gx vd vr (wI ds) (wo rs) ((uS full pl (ts.drop k)).bind fun d r=> .ok (Pa.Item.fact d) r) e w':=by
 have hbl:b<w.heap.size:=h.lt
 have hcl:=hC.at2.lt
 have hcb:=hC.lt
 obtain⟨q,dc,rfl⟩:=aF hC.dr
 have HC:=zH hC
 have S0:=zH (Sx.start h)
 obtain⟨at0,hat⟩:∃z,z=ag ts En pl:=⟨_,rfl⟩
 rw[<-hat]
 have HAT:=zH hat
 generalize hO:((uS full pl (ts.drop k)).bind fun d r=> .ok (Pa.Item.fact d) r:Out Pa.Item)=O
 unfold uS at hO
 have bind_bind:∀{α β γ:Type} (x:Out α) (f:α->List Tok->Out β) (g:β->List Tok->Out γ),(x.bind f).bind g=x.bind fun a r=>(f a r).bind g:=fun x f g=>by cases x<;>rfl
 simp only[bind_bind,bind_ok] at hO
 have HO:=zH hO
 clear hO hat h hC bind_bind
 go_enter Tryz.func57,Tryz.ntmps57
 go_wp2_with fail
 have KS:=zH (jo _ S0.out.rd)
 generalize nameO (ts.drop k)=oo at KS HO
 refine KS.out.mono ?_
 cases oo with
 | er E q m =>
  rintro _ v1 ⟨k',rfl,hkp,hrd,hm⟩
  have SE:=zH (S0.out.call hkp hrd)
  go_wp2_with fail
  exact aa rfl (dW.er HO.out.symm rfl hm SE.out)
 | ok nm r =>
  rintro _ v1 ⟨_,k1,rfl,rfl,hkp,hrd,rfl⟩
  have S1:=zH (S0.out.call hkp hrd)
  have hsz_v1:=hkp.size
  have HO2:=HO.out
  rw[bind_ok] at HO2
  replace HO:=zH HO2
  clear HO2 hkp hrd KS
  have bl:=(Below.refl v1.heap.size v1).alloc (Nat.le_refl _) (.cells #[.string (bs nm),.bool false,zI zL 0,zI zL 0,zI zL 0,zI zL 0,zI zL 0,zI zL at0] 45)
  have S1b:=zH (S1.out.bel bl)
  have D1:=zH (aH.new v1 [.string (bs nm),.bool false,zI zL 0,zI zL 0,zI zL 0,zI zL 0,zI zL 0,zI zL at0] 45)
  clear bl S0 S1
  go_wp2_with fail
  change Calls _ _ _ (v1.alloc (.cells [.string (bs nm),.bool false,zI zL 0,zI zL 0,zI zL 0,zI zL 0,zI zL 0,zI zL at0].toArray 45)) _
  have hv1:(v1.alloc (.cells [.string (bs nm),.bool false,zI zL 0,zI zL 0,zI zL 0,zI zL 0,zI zL 0,zI zL at0].toArray 45)).heap.size=v1.heap.size+1:=by simp
  generalize v1.alloc (.cells [.string (bs nm),.bool false,zI zL 0,zI zL 0,zI zL 0,zI zL 0,zI zL 0,zI zL at0].toArray 45)=V1 at *
  generalize v1.heap.size=dq at *
  have ND:dq≠b:=zac
  have KS:=zH (dm sCo zah V1 S1b.out.rd)
  generalize need sCo (ts.drop k1)=oo at KS HO
  refine KS.out.mono ?_
  cases oo with
  | er E q m =>
   rintro _ v2 ⟨k',rfl,hkp,hrd,hm⟩
   have SE:=zH (S1b.out.call hkp hrd)
   go_wp2_with fail
   exact aa rfl (dW.er HO.out.symm rfl hm SE.out)
  | ok u2 r =>
   rintro _ v2 ⟨_,k2,rfl,rfl,hkp,hrd,rfl⟩
   have S2:=zH (S1b.out.call hkp hrd)
   have D2:=zH (D1.out.call (by simp) hkp ND)
   have hsz_v2:=hkp.size
   have HO2:=HO.out
   rw[bind_ok] at HO2
   replace HO:=zH HO2
   clear HO2 hkp hrd KS
   clear S1b D1
   go_wp2_with fail
   have KS:=zH (jq v2 S2.out.rd)
   generalize unitO (ts.drop k2)=oo at KS HO
   refine KS.out.mono ?_
   cases oo with
   | er E q m =>
    rintro _ v3 ⟨k',rfl,hkp,hrd,hm⟩
    exact Dy
   | ok u r =>
    rintro _ v3 ⟨_,k3,rfl,rfl,hkp,hrd,rfl⟩
    have S3:=zH (S2.out.call hkp hrd)
    have D3:=zH (D2.out.call (by simp) hkp ND)
    have hsz_v3:=hkp.size
    have HO2:=HO.out
    rw[bind_ok] at HO2
    replace HO:=zH HO2
    clear HO2 hkp hrd KS
    clear S2 D2
    unfold uV
    obtain⟨c1,f1⟩:=D3.out 1 _ rfl
    obtain⟨c2,f2⟩:=D3.out 2 _ rfl
    obtain⟨c3,f3⟩:=D3.out 3 _ rfl
    obtain⟨c4,f4⟩:=D3.out 4 _ rfl
    go_wp2_with fail
    clear c1 c2 c3 c4 f1 f2 f3 f4
    have S3b:=zH ((((S3.out.other zac 1 (.bool (uF u))).other zac 2 (zI zL (uM u))).other zac 3 (zI zL (uA u))).other zac 4 (zI zL (uD u)))
    have D3b:=zH ((((D3.out.set 1 (.bool (uF u))).set 2 (zI zL (uM u))).set 3 (zI zL (uA u))).set 4 (zI zL (uD u)))
    simp only[List.set_cons_zero,List.set_cons_succ] at D3b
    clear S3 D3
    generalize (((v3.setCell ⟨dq,1,none⟩ (.bool (uF u))).setCell ⟨dq,2,none⟩ (zI zL (uM u))).setCell ⟨dq,3,none⟩ (zI zL (uA u))).setCell ⟨dq,4,none⟩ (zI zL (uD u))=V3 at *
    have KS:=zH (eT V3 S3b.out.rd)
    generalize ae (ts.drop k3)=oo at KS HO
    refine KS.out.mono ?_
    cases oo with
    | er E q m =>
     rintro _ v4 ⟨k',rfl,hkp,hrd,hm⟩
     have SE:=zH (S3b.out.call hkp hrd)
     go_wp2_with fail
     exact aa rfl (dW.er HO.out.symm rfl hm SE.out)
    | ok lo r =>
     rintro _ v4 ⟨_,k4,rfl,rfl,hkp,hrd,rfl⟩
     have S4:=zH (S3b.out.call hkp hrd)
     have D4:=zH (D3b.out.call (by simp) hkp ND)
     have hsz_v4:=hkp.size
     have HO2:=HO.out
     rw[bind_ok] at HO2
     replace HO:=zH HO2
     clear HO2 hkp hrd KS
     clear S3b D3b
     obtain⟨c5,f5⟩:=D4.out 5 _ rfl
     go_wp2_with fail
     clear c5 f5
     have S4b:=zH (S4.out.other zac 5 (zI zL lo))
     have D4b:=zH (D4.out.set 5 (zI zL lo))
     simp only[List.set_cons_zero,List.set_cons_succ] at D4b
     clear S4 D4
     generalize v4.setCell ⟨dq,5,none⟩ (zI zL lo)=V4 at *
     have KS:=zH (dm kTo zah V4 S4b.out.rd)
     generalize need kTo (ts.drop k4)=oo at KS HO
     refine KS.out.mono ?_
     cases oo with
     | er E q m =>
      rintro _ v5 ⟨k',rfl,hkp,hrd,hm⟩
      have SE:=zH (S4b.out.call hkp hrd)
      go_wp2_with fail
      exact aa rfl (dW.er HO.out.symm rfl hm SE.out)
     | ok u5 r =>
      rintro _ v5 ⟨_,k5,rfl,rfl,hkp,hrd,rfl⟩
      have S5:=zH (S4b.out.call hkp hrd)
      have D5:=zH (D4b.out.call (by simp) hkp ND)
      have hsz_v5:=hkp.size
      have HO2:=HO.out
      rw[bind_ok] at HO2
      replace HO:=zH HO2
      clear HO2 hkp hrd KS
      clear S4b D4b
      go_wp2_with fail
      have KS:=zH (eT v5 S5.out.rd)
      generalize ae (ts.drop k5)=oo at KS HO
      refine KS.out.mono ?_
      cases oo with
      | er E q m =>
       rintro _ v6 ⟨k',rfl,hkp,hrd,hm⟩
       have SE:=zH (S5.out.call hkp hrd)
       go_wp2_with fail
       exact aa rfl (dW.er HO.out.symm rfl hm SE.out)
      | ok hi r =>
       rintro _ v6 ⟨_,k6,rfl,rfl,hkp,hrd,rfl⟩
       have S6:=zH (S5.out.call hkp hrd)
       have D6:=zH (D5.out.call (by simp) hkp ND)
       have hsz_v6:=hkp.size
       have HO2:=HO.out
       rw[bind_ok] at HO2
       replace HO:=zH HO2
       clear HO2 hkp hrd KS
       clear S5 D5
       obtain⟨c6,f6⟩:=D6.out 6 _ rfl
       have S6b:=zH (S6.out.other zac 6 (zI zL hi))
       have D6b:=zH (D6.out.set 6 (zI zL hi))
       simp only[List.set_cons_zero,List.set_cons_succ] at D6b
       have hd0:=(HC.out.at2.heap (S6b.out.kp.block cb hcl zac)).c0
       have NDc:dq≠cb:=zac
       go_wp2_with fail
       clear c6 f6 hd0 S6 D6
       generalize v6.setCell ⟨dq,6,none⟩ (zI zL hi)=V6 at *
       have KFN:=zH (lF full pl V6 S6b.out.rd)
       rw[<-HAT.out] at KFN
       have KS:=zH (KFN.out)
       generalize kY full pl (ts.drop k6)=oo at KS HO
       refine KS.out.mono ?_
       cases oo with
       | er E q m =>
        rintro _ v7 ⟨k',rfl,hkp,hrd,hm⟩
        have SE:=zH (S6b.out.call hkp hrd)
        go_wp2_with fail
        exact aa rfl (dW.er HO.out.symm rfl hm SE.out)
       | ok u7 r =>
        rintro _ v7 ⟨_,k7,rfl,rfl,hkp,hrd,rfl⟩
        have S7:=zH (S6b.out.call hkp hrd)
        have D7:=zH (D6b.out.call (by simp) hkp ND)
        have hsz_v7:=hkp.size
        have HO2:=HO.out
        rw[bind_ok] at HO2
        replace HO:=zH HO2
        clear HO2 hkp hrd KS
        clear S6b D6b KFN
        have CV:Hid (Cx v7 base cb gx (ag ts En) ds rs (.slice q ds.length dc) vr ns):=HC.out.keep S7.out.kp.size (fun j hj hj2=>S7.out.kp.block j hj zce)
        have hsv7:=S7.out.kp.size
        have NDb:dq≠b:=zac
        have NDc:dq≠cb:=zac
        go_wp2_with fail
        have hcU:=(CV.out.at2).c0
        have NCB:cb≠v7.heap.size:=zac
        have hS:v7.drew.cell? ⟨dq,0,none⟩=some (.string (bs nm))/\v7.drew.cell? ⟨dq,1,none⟩=some (.bool (uF u))/\v7.drew.cell? ⟨dq,2,none⟩=some (zI zL (uM u))/\v7.drew.cell? ⟨dq,3,none⟩=some (zI zL (uA u))/\v7.drew.cell? ⟨dq,4,none⟩=some (zI zL (uD u))/\v7.drew.cell? ⟨dq,5,none⟩=some (zI zL lo)/\v7.drew.cell? ⟨dq,6,none⟩=some (zI zL hi)/\v7.drew.cell? ⟨dq,7,none⟩=some (zI zL at0):=⟨(D7.out 0 _ rfl).1,(D7.out 1 _ rfl).1,(D7.out 2 _ rfl).1,(D7.out 3 _ rfl).1,(D7.out 4 _ rfl).1,(D7.out 5 _ rfl).1,(D7.out 6 _ rfl).1,(D7.out 7 _ rfl).1⟩
        refine wp_region_held (S:=fun w':World=>w'.cell? ⟨dq,0,none⟩=some (.string (bs nm))/\w'.cell? ⟨dq,1,none⟩=some (.bool (uF u))/\w'.cell? ⟨dq,2,none⟩=some (zI zL (uM u))/\w'.cell? ⟨dq,3,none⟩=some (zI zL (uA u))/\w'.cell? ⟨dq,4,none⟩=some (zI zL (uD u))/\w'.cell? ⟨dq,5,none⟩=some (zI zL lo)/\w'.cell? ⟨dq,6,none⟩=some (zI zL hi)/\w'.cell? ⟨dq,7,none⟩=some (zI zL at0)) mixed ?_
        change wpAnyH _ _ _ _ _ _ _ _ v7.drew
        refine tk0 (v:=?_) zab zab zab (fun _ _ _ h=>h) (Or.inl ⟨by rfl,?_⟩) hS ?_
        rotate_left
        ·(intro w hSw;(try dsimp only at hSw);go_simp;try with_reducible rfl)
        simp only[Act.put,zA,zB,zC]
        refine tk1 (v:=?_) zab zab zab (fun _ _ _ h=>h) (Or.inl ⟨by rfl,?_⟩) hS ?_
        rotate_left
        ·(intro w hSw;(try dsimp only at hSw);go_simp;try with_reducible rfl)
        simp only[Act.put,zA,zB,zC]
        refine tk2 (v:=?_) zab zab zab (fun _ _ _ h=>h) (Or.inl ⟨by rfl,?_⟩) hS ?_
        rotate_left
        ·(intro w hSw;(try dsimp only at hSw);go_simp;try with_reducible rfl)
        simp only[Act.put,zA,zB,zC]
        refine tk3 (v:=?_) zab zab zab (fun _ _ _ h=>h) (Or.inl ⟨by rfl,?_⟩) hS ?_
        rotate_left
        ·(intro w hSw;(try dsimp only at hSw);go_simp;try with_reducible rfl)
        simp only[Act.put,zA,zB,zC]
        refine tk5 (v:=?_) zab zab zab (fun _ _ _ h=>h) (Or.inl ⟨by rfl,?_⟩) hS ?_
        rotate_left
        ·(intro w hSw;(try dsimp only at hSw);go_simp;try with_reducible rfl)
        simp only[Act.put,zA,zB,zC]
        refine wpAnyH_ready (rs:=[4,6]) zab (by simp) (st4 (fun K hK=>?_) (st6 (fun K hK=>?_) AllReadyH.nil))
        ·go_simp
         refine hK.out _ _ ?_ (fun hHeld=>?_)
         ·exact hS
         clear hK K
         try simp only[Act.put,zA,zB,zC]
         refine wpAnyH_ready (rs:=[6]) zab (by simp) (st6 (fun K hK=>?_) AllReadyH.nil)
         go_simp
         refine hK.out _ _ ?_ (fun hHeld=>?_)
         ·exact Fy
         clear hK K
         try simp only[Act.put,zA,zB,zC]
         exact zz18
        ·go_simp
         refine hK.out _ _ ?_ (fun hHeld=>?_)
         ·exact Fy
         clear hK K
         try simp only[Act.put,zA,zB,zC]
         have hcA1:=((CV.out.at2).bel ((Below.refl v7.heap.size v7).alloc (Nat.le_refl _) (.cells #[.string (bs nm),.bool (uF u),zI zL (uM u),zI zL (uA u),zI zL (uD u),zI zL lo,zI zL hi,zI zL at0] 45))).c0
         have hcA2:=((CV.out.at2).bel ((Below.refl v7.heap.size v7).alloc (Nat.le_refl _) (.cells #[.string (bs nm),.bool (uF u),zI zL (uM u),zI zL (uA u),zI zL (uD u),zI zL lo,zI zL hi,zI zL at0] 45)).drew).c0
         refine wpAnyH_ready (rs:=[4]) zab (by simp) (st4 (fun K hK=>?_) AllReadyH.nil)
         go_simp
         refine hK.out _ _ ?_ (fun hHeld=>?_)
         ·exact Fy
         clear hK K
         try simp only[Act.put,zA,zB,zC]
         clear hcA1 hcA2
         exact zz18
end
def uL (full:Bool)(pl kdn:Nat)(ts:List Tok):Out Rule:=(nameO ts).bind fun nm r1=>(ae r1).bind fun v r2=>(aI bC nameO [] r2).bind fun act r3=>(need dK r3).bind fun _ r4=>(ae r4).bind fun fr r5 =>
  (aI aV ae 36525 r5).bind fun un r6=>(need bf r6).bind fun _ r7=>(ae r7).bind fun kn r8=>(aI bD (af M0) (aN pl) r8).bind fun wh r9 =>
  (aI bi (af M0) (aK pl) r9).bind fun gi r10=>(kY full pl r10).bind fun _ r11=> .ok ⟨nm,v,kdn,act,fr,un,kn,wh,gi,pl⟩ r11
def kQ (fd fr:Bool)(ts:List Tok):Out Pa.Item:=if isW dU ts=true then (uS fd ts.length ts.tail).bind fun d r=> .ok (Pa.Item.fact d) r else match which kinds ts with
 | none=>bad ts
 | some k=>(uL fr ts.length (k+1) ts.tail).bind fun d r=> .ok (Pa.Item.rule d) r
theorem ic {α β γ:Type}(x:Out α)(f:α->List Tok->Out β)(g:β->List Tok->Out γ):(x.bind f).bind g=x.bind fun a r=>(f a r).bind g:=by cases x<;>rfl
def kM (fd fr:Bool):Pa.Item->Bool
 | .fact _=>fd
 | .rule _=>fr
theorem qM (fd fr:Bool)(ts:List Tok):kQ fd fr ts=(jH M0 ts).bind fun d r=>(kY (kM fd fr d) ts.length r).bind fun _ r=> .ok d r:=by
 unfold kQ jH
 by_cases h:isW dU ts=true
 ·rw[if_pos h,if_pos h]
  unfold uS lT need
  rw[if_pos h]
  simp only[ic,bind_ok,kM]
 ·rw[if_neg h,if_neg h]
  unfold mg
  cases which kinds ts with
  | none=>rfl
  | some k =>
   simp only[uL,ic,bind_ok,kM]
theorem vD (c:By)(fd fr:Bool)(ts:List Tok)(hd:(c.ds.length==12)=fd)(hr:(c.rs.length==100)=fr)(h0:ts≠[])(hf:¬20<=c.es.length)(hd1:c.ds.length<=12)(hr1:c.rs.length<=100) :
  (∃d r,kQ fd fr ts = .ok d r/\gof M0 ts c=gof M0 r ⟨wI c.ds d,wo c.rs d,c.es⟩/\(wI c.ds d).length<=12/\(wo c.rs d).length<=100/\r.length<ts.length) \/
  (∃e k m,kQ fd fr ts = .er e k m/\gof M0 ts c=gof M0 (skip (ts.drop (ts.length-m))) (c.err e k)/\(e=2\/e=3\/e=10)/\(skip (ts.drop (ts.length-m))).length<ts.length):=by
 have hl0:ts.length≠0:=fun e=>h0 (List.length_eq_zero_iff.1 e)
 rw[qM]
 cases hb:jH M0 ts with
 | er e k m =>
  right
  have hi:item M0 ts = .er e k m:=by unfold item;rw[hb];rfl
  have g:=dJ (M:=M0) ts
  rw[hi] at g
  exact⟨e,k,m,rfl,nG h0 hf hi,g.1,(fG hi hl0).1⟩
 | ok d r =>
  rw[bind_ok]
  unfold kY
  by_cases hs:isW sSc r=true
  ·have hi:item M0 ts = .ok d r.tail:=by unfold item;rw[hb,bind_ok];unfold need;rw[if_pos hs];rfl
   have hlen:=fH hi
   obtain⟨t,r',rfl⟩:=bW hs
   rw[if_pos hs]
   cases hfu:kM fd fr d with
   | false =>
    left
    rw[if_neg (by simp)]
    refine⟨d,r',rfl,?_,?_,?_,hlen⟩
    ·rw[kH hf hi]
     congr 1
     cases d with
     | fact d=>simp only[kM] at hfu;subst hfu;simp only[By.add,wI,wo];rw[if_neg (by simpa using hd)]
     | rule d=>simp only[kM] at hfu;subst hfu;simp only[By.add,wI,wo];rw[if_neg (by simpa using hr)]
    ·cases d with
     | fact d =>
      simp only[kM] at hfu;subst hfu;simp only[wI,List.length_append,List.length_singleton];have:c.ds.length≠12:=by simpa using hd
      omega
     | rule d=>exact hd1
    ·cases d with
     | fact d=>exact hr1
     | rule d =>
      simp only[kM] at hfu;subst hfu;simp only[wo,List.length_append,List.length_singleton];have:c.rs.length≠100:=by simpa using hr
      omega
   | true =>
    right
    rw[if_pos rfl]
    have g:=iU (M:=M0) ts
    rw[hb] at g
    obtain⟨pre,hts,-,-⟩:=g
    have hdrop:ts.drop (ts.length-(t::r').length)=t::r':=by rw[hts,List.length_append,Nat.add_sub_cancel,List.drop_left]
    have hsk:skip (ts.drop (ts.length-(t::r').length))=r':=by rw[hdrop,skip,if_pos (show isT sSc t=true from hs)]
    refine⟨2,ts.length,(t::r').length,rfl,?_,.inl rfl,by rw[hsk];exact hlen⟩
    rw[hsk,kH hf hi]
    congr 1
    cases d with
    | fact d=>simp only[kM] at hfu;subst hfu;simp only[By.add];rw[if_pos (by simpa using hd)];rfl
    | rule d=>simp only[kM] at hfu;subst hfu;simp only[By.add];rw[if_pos (by simpa using hr)];rfl
  ·right
   have hi:item M0 ts = .er 10 r.length r.length:=by unfold item;rw[hb,bind_ok];unfold need;rw[if_neg hs];rfl
   rw[if_neg hs]
   exact⟨10,r.length,r.length,rfl,nG h0 hf hi,.inr (.inr rfl),(fG hi hl0).1⟩
end Go.Proofs.YtnjfolljbfkojaaGreatDoor
