import Derived.Test.YtnjfolljbfkojaaGreatDoorMAJ
set_option maxRecDepth 100000
set_option maxHeartbeats 20000000
namespace Go.Proofs.YtnjfolljbfkojaaGreatDoor
open Go.Value renaming int→zI
open Go.IntKind renaming i64→zL
open Go.Lib renaming hid→zH
open Go.RowKit
theorem sO (n d:Int)(w:World)(h:d<1) :
  Calls Tryz.prog 112 #[.agg #[zI zL n,zI zL d]] w fun e w'=>e = .returned (.bool false)/\Below w.heap.size w w':=by
 go_enter Tryz.func112,Tryz.ntmps112
 go_wp2
 go_ret
 exact⟨rfl,zan⟩
theorem sH (n d:Int)(w:World)(n0 : -9223372036854775808<=n)(n1:n<=9223372036854775807)(d0 : -9223372036854775808<=d)(d1:d<=9223372036854775807)(h:1<=d)(hm:mk n d=(0,0,3)) :
  Calls Tryz.prog 112 #[.agg #[zI zL n,zI zL d]] w fun e w'=>e = .returned (.bool false)/\Below w.heap.size w w':=by
 have k:=eu n d (w.alloc (.cells #[zI zL n,zI zL d] 31)) n0 n1 d0 d1
 exact EN
theorem xQ (n d:Int)(w:World)(n0 : -9223372036854775808<=n)(n1:n<=9223372036854775807)(d0 : -9223372036854775808<=d)(d1:d<=9223372036854775807)(h:1<=d)(p q:Int)(hm:mk n d=(p,q,0))(hp:¬p=n) :
  Calls Tryz.prog 112 #[.agg #[zI zL n,zI zL d]] w fun e w'=>e = .returned (.bool false)/\Below w.heap.size w w':=by
 have k:=eu n d (w.alloc (.cells #[zI zL n,zI zL d] 31)) n0 n1 d0 d1
 exact EN
theorem yB (n d:Int)(w:World)(n0 : -9223372036854775808<=n)(n1:n<=9223372036854775807)(d0 : -9223372036854775808<=d)(d1:d<=9223372036854775807)(h:1<=d)(q:Int)(hm:mk n d=(n,q,0))(hp:¬q=d) :
  Calls Tryz.prog 112 #[.agg #[zI zL n,zI zL d]] w fun e w'=>e = .returned (.bool false)/\Below w.heap.size w w':=by
 have k:=eu n d (w.alloc (.cells #[zI zL n,zI zL d] 31)) n0 n1 d0 d1
 exact EN
theorem yR (n d:Int)(w:World)(n0 : -9223372036854775808<=n)(n1:n<=9223372036854775807)(d0 : -9223372036854775808<=d)(d1:d<=9223372036854775807)(h:1<=d)(hm:mk n d=(n,d,0)) :
  Calls Tryz.prog 112 #[.agg #[zI zL n,zI zL d]] w fun e w'=>e = .returned (.bool true)/\Below w.heap.size w w':=by
 have k:=eu n d (w.alloc (.cells #[zI zL n,zI zL d] 31)) n0 n1 d0 d1
 exact EN
theorem iM (n d:Int)(w:World)(n0 : -9223372036854775808<=n)(n1:n<=9223372036854775807)(d0 : -9223372036854775808<=d)(d1:d<=9223372036854775807) :
  Calls Tryz.prog 112 #[.agg #[zI zL n,zI zL d]] w fun e w'=>e = .returned (.bool (vld n d))/\Below w.heap.size w w':=by
 by_cases h:d<1
 ·have e:vld n d=false:=by
   rw[Bool.eq_false_iff];intro hv
   have:=((dC n d).1 hv).2.2.1;omega
  rw[e]
  exact sO n d w h
 obtain⟨p,q,e,hm⟩:∃p q e,mk n d=(p,q,e):=⟨_,_,_,rfl⟩
 cases hv:vld n d
 ·by_cases he:e=0
  ·subst he
   have vp:=zJ zac hm
   by_cases hp:p=n
   ·subst hp
    have hq:¬q=d:=fun x=>by subst x;rw[(dC p q).2 vp] at hv;cases hv
    exact yB p d w n0 n1 d0 d1 zac q hm hq
   ·exact xQ n d w n0 n1 d0 d1 zac p q hm hp
  ·obtain⟨rfl,rfl,rfl⟩:=zK zac hm he
   exact sH n d w n0 n1 d0 d1 zac hm
 ·exact yR n d w n0 n1 d0 d1 zac (Cg ((dC n d).1 hv))
theorem Ck (a b c d:Int)(w:World)(h:vld a b=false)
  (a0 : -9223372036854775808<=a)(a1:a<=9223372036854775807)(b0 : -9223372036854775808<=b)(b1:b<=9223372036854775807) :
  Calls Tryz.prog 100 #[.agg #[zI zL a,zI zL b],.agg #[zI zL c,zI zL d]] w fun e w'=>e = .returned (.bool false)/\Below w.heap.size w w':=by
 go_enter Tryz.func100,Tryz.ntmps100
 go_wp2_with fail
 refine(iM a b _ a0 a1 b0 b1).mono ?_
 rintro e w1 ⟨rfl,hb1⟩
 have HBX:Below w.heap.size w w1:=(((Below.refl _ _).alloc (Nat.le_refl _) _).alloc (by simp) _).trans (hb1.mono zai)
 clear hb1
 go_wp2
 go_ret
 exact⟨rfl,HBX⟩
theorem yC (a b c d:Int)(v:Bool)(w:World)(h:vld a b=true)(k:vld c d=v)
  (a0 : -9223372036854775808<=a)(a1:a<=9223372036854775807)(b0 : -9223372036854775808<=b)(b1:b<=9223372036854775807)
  (c0 : -9223372036854775808<=c)(c1:c<=9223372036854775807)(d0 : -9223372036854775808<=d)(d1:d<=9223372036854775807) :
  Calls Tryz.prog 100 #[.agg #[zI zL a,zI zL b],.agg #[zI zL c,zI zL d]] w fun e w'=>e = .returned (.bool v)/\Below w.heap.size w w':=by
 go_enter Tryz.func100,Tryz.ntmps100
 go_wp2_with fail
 refine(iM a b _ a0 a1 b0 b1).mono ?_
 rintro e w1 ⟨rfl,hb1⟩
 have hz1:=hb1.size
 simp only[World.size_alloc] at hz1
 have C1:At2 w1 (w.heap.size+1) (zI zL c) (zI zL d):=by
  have:=(At2.new (w.alloc (.cells #[zI zL a,zI zL b] 31)) (zI zL c) (zI zL d) 31).below hb1 (by simp)
  simpa using this
 have HB1:Below w.heap.size w w1:=(((Below.refl _ _).alloc (Nat.le_refl _) _).alloc (by simp) _).trans (hb1.mono zai)
 clear hb1
 obtain⟨p4,p5,p6,p7⟩:=C1
 go_wp2_with fail
 refine(iM c d _ c0 c1 d0 d1).mono ?_
 rintro e w2 ⟨rfl,hb2⟩
 have HBX:Below w.heap.size w w2:=HB1.trans (hb2.mono zac)
 clear hb2 HB1 p4 p5 p6 p7
 go_wp2
 go_ret
 exact⟨rfl,HBX⟩
theorem qK (a b c d:Int)(w:World)
  (a0 : -9223372036854775808<=a)(a1:a<=9223372036854775807)(b0 : -9223372036854775808<=b)(b1:b<=9223372036854775807)
  (c0 : -9223372036854775808<=c)(c1:c<=9223372036854775807)(d0 : -9223372036854775808<=d)(d1:d<=9223372036854775807) :
  Calls Tryz.prog 100 #[.agg #[zI zL a,zI zL b],.agg #[zI zL c,zI zL d]] w fun e w'=>e = .returned (.bool (vld a b&&vld c d))/\Below w.heap.size w w':=by
 cases h:vld a b
 ·exact Ck a b c d w h a0 a1 b0 b1
 ·exact yC a b c d _ w h rfl a0 a1 b0 b1 c0 c1 d0 d1
theorem BH (a b c d:Int)(w:World)(h:(vld a b&&vld c d)=false)
  (a0 : -9223372036854775808<=a)(a1:a<=9223372036854775807)(b0 : -9223372036854775808<=b)(b1:b<=9223372036854775807)
  (c0 : -9223372036854775808<=c)(c1:c<=9223372036854775807)(d0 : -9223372036854775808<=d)(d1:d<=9223372036854775807) :
  Calls Tryz.prog 85 #[.agg #[zI zL a,zI zL b],.agg #[zI zL c,zI zL d]] w fun e w'=>e = .returned (.tuple #[.agg #[zI zL 0,zI zL 0],zI zL 1])/\Below w.heap.size w w':=by
 go_enter Tryz.func85,Tryz.ntmps85
 go_wp2_with fail
 refine(qK a b c d _ a0 a1 b0 b1 c0 c1 d0 d1).mono ?_
 rw[h]
 rintro e w1 ⟨rfl,hb1⟩
 have hz1:=hb1.size
 simp only[World.size_alloc] at hz1
 have R1:At2 w1 (w.heap.size+1+1) (zI zL 0) (zI zL 0):=by
  have:=(At2.new ((w.alloc (.cells #[zI zL a,zI zL b] 31)).alloc (.cells #[zI zL c,zI zL d] 31)) (zI zL 0) (zI zL 0) 31).below hb1 (by simp)
  simpa using this
 have HB1:Below w.heap.size w w1:=((((Below.refl _ _).alloc (Nat.le_refl _) _).alloc (by simp) _).alloc zai _).trans (hb1.mono zai)
 clear hb1
 obtain⟨p8,p9,p10,p11⟩:=R1
 go_wp2
 exact bodyPost_ret (v:= .tuple #[.agg #[zI zL 0,zI zL 0],zI zL 1]) (by simp[results,Tryz.results85,go_sem,p8,p9]) rfl ⟨rfl,(by repeat' (first|exact HB1|refine Below.setCell ?_ zas _|refine below_drewN ?_ _|refine Below.alloc ?_ zas _))⟩
theorem yU (a b c d p q er:Int)(w:World)(h:(vld a b&&vld c d)=true)(hm:mk (a*c) (b*d)=(p,q,er))
  (a0 : -9223372036854775808<=a)(a1:a<=9223372036854775807)(b0 : -9223372036854775808<=b)(b1:b<=9223372036854775807)
  (c0 : -9223372036854775808<=c)(c1:c<=9223372036854775807)(d0 : -9223372036854775808<=d)(d1:d<=9223372036854775807) :
  Calls Tryz.prog 85 #[.agg #[zI zL a,zI zL b],.agg #[zI zL c,zI zL d]] w fun e w'=>e = .returned (.tuple #[.agg #[zI zL p,zI zL q],zI zL er])/\Below w.heap.size w w':=by
 have HV:=zH h
 obtain⟨hv1,hv2⟩:=Bool.and_eq_true_iff.1 h
 obtain⟨v1,v2,v3,v4,_⟩:=(dC a b).1 hv1
 obtain⟨u1,u2,u3,u4,_⟩:=(dC c d).1 hv2
 have bb:=jd ((dC a b).1 hv1) ((dC c d).1 hv2)
 have km:∀w,Calls Tryz.prog 81 #[zI zL (a*c),zI zL (b*d)] w fun e w'=>e = .returned (.tuple #[.agg #[zI zL p,zI zL q],zI zL er])/\Below w.heap.size w w':=fun w=>by
  have k:=eu (a*c) (b*d) w bb.1 bb.2.1 bb.2.2.1 bb.2.2.2
  rw[hm] at k;exact k
 have KM:=zH km
 have x1:=jh v1 v2 (b:=d) zac u4
 have x2:=jh u1 u2 (b:=b) zac v4
 have x3:=jh v1 v2 u1 u2
 have x4:=jh (a:=b) (b:=d) zac v4 zac u4
 have x5:=jh (a:=b) zac v4 u1 u2
 clear h hv1 hv2 hm km
 go_enter Tryz.func85,Tryz.ntmps85
 go_wp2_with fail
 refine(qK a b c d _ a0 a1 b0 b1 c0 c1 d0 d1).mono ?_
 rw[HV.out]
 rintro e w1 ⟨rfl,hb1⟩
 have hz1:=hb1.size
 simp only[World.size_alloc] at hz1
 have A1:At2 w1 w.heap.size (zI zL a) (zI zL b):=(((At2.new w _ _ _).alloc (by simp) _).alloc zai _).below hb1 zai
 have C1:At2 w1 (w.heap.size+1) (zI zL c) (zI zL d):=by
  have:=((At2.new (w.alloc (.cells #[zI zL a,zI zL b] 31)) (zI zL c) (zI zL d) 31).alloc (by simp) (.cells #[zI zL 0,zI zL 0] 31)).below hb1 (by simp)
  simpa using this
 have R1:At2 w1 (w.heap.size+1+1) (zI zL 0) (zI zL 0):=by
  have:=(At2.new ((w.alloc (.cells #[zI zL a,zI zL b] 31)).alloc (.cells #[zI zL c,zI zL d] 31)) (zI zL 0) (zI zL 0) 31).below hb1 (by simp)
  simpa using this
 have HB1:Below w.heap.size w w1:=((((Below.refl _ _).alloc (Nat.le_refl _) _).alloc (by simp) _).alloc zai _).trans (hb1.mono zai)
 clear hb1
 obtain⟨p0,p1,p2,p3⟩:=A1
 obtain⟨p4,p5,p6,p7⟩:=C1
 obtain⟨p8,p9,p10,p11⟩:=R1
 go_wp2_with fail
 refine(KM.out _).mono ?_
 rintro e w2 ⟨rfl,hb2⟩
 have hz2:=hb2.size
 have R2:=(At2.mk p8 p9 p10 p11).below hb2 zac
 have HB2:Below w.heap.size w w2:=HB1.trans (hb2.mono zac)
 clear p0 p1 p2 p3 p4 p5 p6 p7 p8 p9 p10 p11 hb2 HB1
 obtain⟨p8,p9,p10,p11⟩:=R2
 have pl:w.heap.size+1+1<w2.heap.size:=zac
 go_wp2
 exact bodyPost_ret (v:= .tuple #[.agg #[zI zL p,zI zL q],zI zL er]) (by simp[results,Tryz.results85,go_sem,p8,p9,pl]) rfl ⟨rfl,(by repeat' (first|exact HB2|refine Below.setCell ?_ zas _|refine below_drewN ?_ _|refine Below.alloc ?_ zas _))⟩
theorem qm (a b c d:Int)(w:World)
  (a0 : -9223372036854775808<=a)(a1:a<=9223372036854775807)(b0 : -9223372036854775808<=b)(b1:b<=9223372036854775807)
  (c0 : -9223372036854775808<=c)(c1:c<=9223372036854775807)(d0 : -9223372036854775808<=d)(d1:d<=9223372036854775807) :
  Calls Tryz.prog 85 #[.agg #[zI zL a,zI zL b],.agg #[zI zL c,zI zL d]] w fun e w'=>e = .returned (.tuple #[.agg #[zI zL (op2 a b c d (a*c) (b*d)).1,zI zL (op2 a b c d (a*c) (b*d)).2.1],zI zL (op2 a b c d (a*c) (b*d)).2.2])/\Below w.heap.size w w':=by
 unfold op2
 cases h:(vld a b&&vld c d)
 ·rw[if_neg (fun x=>by rw[x.1,x.2] at h;cases h)]
  exact BH a b c d w h a0 a1 b0 b1 c0 c1 d0 d1
 ·rw[if_pos (Bool.and_eq_true_iff.1 h)]
  exact yU a b c d _ _ _ w h rfl a0 a1 b0 b1 c0 c1 d0 d1
end Go.Proofs.YtnjfolljbfkojaaGreatDoor
namespace Go.Proofs.YtnjfolljbfkojaaGreatDoor
open Go.Value renaming int→zI
open Go.IntKind renaming i64→zL
open Go.Lib renaming hid→zH
open Go.RowKit Lx Pa
theorem yN (ts:List Tok)(p:Option Addr)(b off cap n k En:Nat)(O:Int)(w:World)(hS:SlT w p b off n ts)(hwf:Wf ts)(hW:isA (ts.drop k)=true)(hkt:k<ts.length) :
  Calls Tryz.prog 41 #[.agg #[.slice p n cap,zI zL k,zI zL En,zI zL 0,zI zL O]] w fun e w'=>e = .returned (.tuple #[.string (bs ts[k].t),.agg #[.slice p n cap,zI zL (k+1:Nat),zI zL En,zI zL 0,zI zL O]])/\RowKit.Below w.heap.size w w':=by
 have KI:=zH (fun w hS=>bZ ts p b off cap n k En O w hS hwf)
 rw[hW] at KI
 have hmx:=hS.max
 have hl:=hS.ln
 have hk1:IntKind.i64.wrap ((k:Int)+1)=((k+1:Nat):Int):=zal
 have hk2:IntKind.i64.wrap (((k+1:Nat):Int)-1)=(k:Int):=zcd
 have hk3:IntKind.i64.wrap (k:Int)=(k:Int):=IntWalk.i64_in _ zac
 have hz:(k:Int)<(n:Int):=zac
 have hp:=hS.ptr zac
 have hbw:=hS.lt zac
 have hne:b≠w.heap.size:=zac
 have HC:=zH (fun v (h:RowKit.Below w.heap.size w v)=>(hS.bel h).cells k hkt)
 have HS:=zH hS
 generalize ts[k]=t at *
 obtain⟨tk,ta,tt,tn,td⟩:=t
 clear hS
 subst hp
 obtain⟨W2,hW2⟩:∃W2,W2=(w.alloc (.cells #[.slice (some ⟨b,off,none⟩) n cap,zI zL k,zI zL En,zI zL 0,zI zL O] 62)).alloc (.cells #[.slice none 0 0,zI zL 0,zI zL 0,zI zL 0,zI zL 0] 62):=⟨_,rfl⟩
 have BA:=zH ((B5.new w (.slice (some ⟨b,off,none⟩) n cap) (zI zL k) (zI zL En) (zI zL 0) (zI zL O) 62).bel ((Below.refl _ _).alloc (Nat.le_refl _) (.cells #[.slice none 0 0,zI zL 0,zI zL 0,zI zL 0,zI zL 0] 62)))
 have BR:=zH (B5.new (w.alloc (.cells #[.slice (some ⟨b,off,none⟩) n cap,zI zL k,zI zL En,zI zL 0,zI zL O] 62)) (.slice none 0 0) (zI zL 0) (zI zL 0) (zI zL 0) (zI zL 0) 62)
 have HB:Hid (RowKit.Below w.heap.size w W2):=zat
 rw[<-hW2] at BA BR
 rw[show(w.alloc (.cells #[.slice (some ⟨b,off,none⟩) n cap,zI zL k,zI zL En,zI zL 0,zI zL O] 62)).heap.size=w.heap.size+1 by simp] at BR
 go_enter Tryz.func41,Tryz.ntmps41
 go_wp2_with fail
 rw[<-hW2]
 clear hW2
 refine(KI.out _ (HS.out.bel HB.out)).mono ?_
 rintro _ v1 ⟨rfl,hb⟩
 have B1:=zH (HB.out.trans (hb.mono HB.out.size))
 have A1:=zH (BA.out.bel hb)
 have R1:=zH (BR.out.bel hb)
 have S1:=zH (HS.out.bel B1.out)
 clear hb BA BR HB
 obtain⟨c0,c1,c2,c3,c4,f0,f1,f2,f3,f4⟩:=A1.out
 have AV:=zH (A1.out.set1 (zI zL ((k:Int)+1)))
 have RV:=zH (R1.out.other (r:=w.heap.size) zac 1 none (zI zL ((k:Int)+1)))
 have BV:=zH (B1.out.setCell (p:=⟨w.heap.size,1,none⟩) (Nat.le_refl _) (zI zL ((k:Int)+1)))
 go_wp2_with fail
 clear c0 c1 c2 c3 c4 f0 f1 f2 f3 f4 A1 R1 S1 B1
 generalize v1.setCell ⟨w.heap.size,1,none⟩ (zI zL ((k:Int)+1))=V at *
 obtain⟨c0,c1,c2,c3,c4,-,-,-,-,-⟩:=AV.out
 obtain⟨e0,e1,e2,e3,e4,g0,g1,g2,g3,g4⟩:=RV.out
 obtain⟨a0,a1,a2,a3,a4⟩:=HC.out V BV.out
 go_still_tail 10,mixed
 change wpList _ _ _ _ _ V.drew
 have BD:=zH (BV.out.drew)
 go_wp2_with fail
 exact bodyPost_ret (v:= .tuple #[.string (bs tt),.agg #[.slice (some ⟨b,off,none⟩) n cap,zI zL (k+1:Nat),zI zL En,zI zL 0,zI zL O]]) (by simp[results,Tryz.results41,go_sem,e0,e1,e2,e3,e4]) rfl ⟨rfl,zae⟩
theorem wG (ts:List Tok)(p:Option Addr)(b off cap n k En:Nat)(O:Int)(w:World)(hS:SlT w p b off n ts)(hW:isN (ts.drop k)=true)(hkt:k<ts.length)(hd:ts[k].d=1) :
  Calls Tryz.prog 45 #[.agg #[.slice p n cap,zI zL k,zI zL En,zI zL 0,zI zL O]] w fun e w'=>e = .returned (.tuple #[zI zL ts[k].n,.agg #[.slice p n cap,zI zL (k+1:Nat),zI zL En,zI zL 0,zI zL O]])/\RowKit.Below w.heap.size w w':=by
 have KI:=zH (fun w hS=>bR ts p b off cap n k En O w hS)
 rw[hW] at KI
 have hmx:=hS.max
 have hl:=hS.ln
 have hk1:IntKind.i64.wrap ((k:Int)+1)=((k+1:Nat):Int):=zal
 have hk3:IntKind.i64.wrap (k:Int)=(k:Int):=IntWalk.i64_in _ zac
 have hz:(k:Int)<(n:Int):=zac
 have hp:=hS.ptr zac
 have hbw:=hS.lt zac
 have hne:b≠w.heap.size:=zac
 have HC:=zH (fun v (h:RowKit.Below w.heap.size w v)=>(hS.bel h).cells k hkt)
 have KO:=zH (fun w hS=>aj ts p b off cap n k En 0 O w hS zac)
 have KF:=zH (fun a0 w=>by have h:=bA p n cap k En 0 O 3 a0 w;rw[if_pos rfl,if_pos rfl] at h;exact h)
 have HS:=zH hS
 generalize ts[k]=t at *
 obtain⟨tk,ta,tt,tn,td⟩:=t
 replace hd:td=1:=hd
 subst hd
 clear hS
 subst hp
 obtain⟨W2,hW2⟩:∃W2,W2=(w.alloc (.cells #[.slice (some ⟨b,off,none⟩) n cap,zI zL k,zI zL En,zI zL 0,zI zL O] 62)).alloc (.cells #[.slice none 0 0,zI zL 0,zI zL 0,zI zL 0,zI zL 0] 62):=⟨_,rfl⟩
 have BA:=zH ((B5.new w (.slice (some ⟨b,off,none⟩) n cap) (zI zL k) (zI zL En) (zI zL 0) (zI zL O) 62).bel ((Below.refl _ _).alloc (Nat.le_refl _) (.cells #[.slice none 0 0,zI zL 0,zI zL 0,zI zL 0,zI zL 0] 62)))
 have BR:=zH (B5.new (w.alloc (.cells #[.slice (some ⟨b,off,none⟩) n cap,zI zL k,zI zL En,zI zL 0,zI zL O] 62)) (.slice none 0 0) (zI zL 0) (zI zL 0) (zI zL 0) (zI zL 0) 62)
 have HB:Hid (RowKit.Below w.heap.size w W2):=zat
 rw[<-hW2] at BA BR
 rw[show(w.alloc (.cells #[.slice (some ⟨b,off,none⟩) n cap,zI zL k,zI zL En,zI zL 0,zI zL O] 62)).heap.size=w.heap.size+1 by simp] at BR
 go_enter Tryz.func45,Tryz.ntmps45
 go_wp2_with fail
 rw[<-hW2]
 clear hW2
 refine(KI.out _ (HS.out.bel HB.out)).mono ?_
 rintro _ v1 ⟨rfl,hb⟩
 have B1:=zH (HB.out.trans (hb.mono HB.out.size))
 have A1:=zH (BA.out.bel hb)
 have R1:=zH (BR.out.bel hb)
 have S1:=zH (HS.out.bel B1.out)
 clear hb BA BR HB
 obtain⟨c0,c1,c2,c3,c4,f0,f1,f2,f3,f4⟩:=A1.out
 obtain⟨a0,a1,a2,a3,a4⟩:=HC.out v1 B1.out
 obtain⟨e0,e1,e2,e3,e4,g0,g1,g2,g3,g4⟩:=R1.out
 have hsz1:w.heap.size<v1.heap.size:=World.block_lt_of_cell? _ _ c0
 have hsz2:w.heap.size+1<v1.heap.size:=World.block_lt_of_cell? _ _ e0
 have AV:=zH ((A1.out.set1 (zI zL ((k:Int)+1))).bel ((Below.refl _ _).alloc (Nat.le_refl _) (.cells #[zI zL tn,zI zL 1] 31)))
 have RV:=zH ((R1.out.other (r:=w.heap.size) zac 1 none (zI zL ((k:Int)+1))).bel ((Below.refl _ _).alloc (Nat.le_refl _) (.cells #[zI zL tn,zI zL 1] 31)))
 have BV:=zH ((B1.out.setCell (p:=⟨w.heap.size,1,none⟩) (Nat.le_refl _) (zI zL ((k:Int)+1))).alloc (by have:=B1.out.size;simpa[World.setCell] using this) (.cells #[zI zL tn,zI zL 1] 31))
 have LV:Hid (((v1.setCell ⟨w.heap.size,1,none⟩ (zI zL ((k:Int)+1))).alloc (.cells #[zI zL tn,zI zL 1] 31)).cell? ⟨v1.heap.size,0,none⟩=some (zI zL tn)):=by
  have:=cell_of_row _ _ 0 _ _ _ (heap_alloc_new (v1.setCell ⟨w.heap.size,1,none⟩ (zI zL ((k:Int)+1))) (.cells #[zI zL tn,zI zL 1] 31))
  rw[show(v1.setCell ⟨w.heap.size,1,none⟩ (zI zL ((k:Int)+1))).heap.size=v1.heap.size by simp[World.setCell]] at this
  exact this.trans rfl
 go_wp2_with fail
 clear c0 c1 c2 c3 c4 f0 f1 f2 f3 f4 e0 e1 e2 e3 e4 g0 g1 g2 g3 g4 a0 a1 a2 a3 a4 A1 R1 S1 B1
 generalize (v1.setCell ⟨w.heap.size,1,none⟩ (zI zL ((k:Int)+1))).alloc (.cells #[zI zL tn,zI zL 1] 31)=V at *
 obtain⟨c0,c1,c2,c3,c4,-,-,-,-,-⟩:=AV.out
 obtain⟨e0,e1,e2,e3,e4,g0,g1,g2,g3,g4⟩:=RV.out
 have l0:=LV.out
 go_still_tail 4,mixed
 change wpList _ _ _ _ _ V.drew
 have BD:=zH (BV.out.drew)
 go_wp2_with fail
 exact bodyPost_ret (v:= .tuple #[zI zL tn,.agg #[.slice (some ⟨b,off,none⟩) n cap,zI zL (k+1:Nat),zI zL En,zI zL 0,zI zL O]]) (by simp[results,Tryz.results45,go_sem,e0,e1,e2,e3,e4]) rfl ⟨rfl,zae⟩
theorem ry (ts:List Tok)(p:Option Addr)(b off cap n k En:Nat)(O:Int)(w:World)(hS:SlT w p b off n ts)(hW:isN (ts.drop k)=true)(hkt:k<ts.length)(hd:ts[k].d≠1) :
  Calls Tryz.prog 45 #[.agg #[.slice p n cap,zI zL k,zI zL En,zI zL 0,zI zL O]] w fun e w'=>e = .returned (.tuple #[zI zL 0,.agg #[.slice p n cap,zI zL k,zI zL En,zI zL 3,zI zL (ag ts En (n-k))]])/\RowKit.Below w.heap.size w w':=by
 have KI:=zH (fun w hS=>bR ts p b off cap n k En O w hS)
 rw[hW] at KI
 have hmx:=hS.max
 have hl:=hS.ln
 have hk1:IntKind.i64.wrap ((k:Int)+1)=((k+1:Nat):Int):=zal
 have hk3:IntKind.i64.wrap (k:Int)=(k:Int):=IntWalk.i64_in _ zac
 have hz:(k:Int)<(n:Int):=zac
 have hp:=hS.ptr zac
 have hbw:=hS.lt zac
 have hne:b≠w.heap.size:=zac
 have HC:=zH (fun v (h:RowKit.Below w.heap.size w v)=>(hS.bel h).cells k hkt)
 have KO:=zH (fun w hS=>aj ts p b off cap n k En 0 O w hS zac)
 have KF:=zH (fun a0 w=>by have h:=bA p n cap k En 0 O 3 a0 w;rw[if_pos rfl,if_pos rfl] at h;exact h)
 have HS:=zH hS
 generalize ts[k]=t at *
 obtain⟨tk,ta,tt,tn,td⟩:=t
 replace hd:td≠1:=hd
 have e9:(td != 1)=true:=by simpa using hd
 clear hS
 subst hp
 obtain⟨W2,hW2⟩:∃W2,W2=(w.alloc (.cells #[.slice (some ⟨b,off,none⟩) n cap,zI zL k,zI zL En,zI zL 0,zI zL O] 62)).alloc (.cells #[.slice none 0 0,zI zL 0,zI zL 0,zI zL 0,zI zL 0] 62):=⟨_,rfl⟩
 have BA:=zH ((B5.new w (.slice (some ⟨b,off,none⟩) n cap) (zI zL k) (zI zL En) (zI zL 0) (zI zL O) 62).bel ((Below.refl _ _).alloc (Nat.le_refl _) (.cells #[.slice none 0 0,zI zL 0,zI zL 0,zI zL 0,zI zL 0] 62)))
 have BR:=zH (B5.new (w.alloc (.cells #[.slice (some ⟨b,off,none⟩) n cap,zI zL k,zI zL En,zI zL 0,zI zL O] 62)) (.slice none 0 0) (zI zL 0) (zI zL 0) (zI zL 0) (zI zL 0) 62)
 have HB:Hid (RowKit.Below w.heap.size w W2):=zat
 rw[<-hW2] at BA BR
 rw[show(w.alloc (.cells #[.slice (some ⟨b,off,none⟩) n cap,zI zL k,zI zL En,zI zL 0,zI zL O] 62)).heap.size=w.heap.size+1 by simp] at BR
 go_enter Tryz.func45,Tryz.ntmps45
 go_wp2_with fail
 rw[<-hW2]
 clear hW2
 refine(KI.out _ (HS.out.bel HB.out)).mono ?_
 rintro _ v1 ⟨rfl,hb⟩
 have B1:=zH (HB.out.trans (hb.mono HB.out.size))
 have A1:=zH (BA.out.bel hb)
 have R1:=zH (BR.out.bel hb)
 have S1:=zH (HS.out.bel B1.out)
 clear hb BA BR HB
 obtain⟨c0,c1,c2,c3,c4,f0,f1,f2,f3,f4⟩:=A1.out
 obtain⟨a0,a1,a2,a3,a4⟩:=HC.out v1 B1.out
 obtain⟨e0,e1,e2,e3,e4,g0,g1,g2,g3,g4⟩:=R1.out
 have hsz1:w.heap.size<v1.heap.size:=World.block_lt_of_cell? _ _ c0
 have hsz2:w.heap.size+1<v1.heap.size:=World.block_lt_of_cell? _ _ e0
 have hba:=(Below.refl v1.heap.size v1).alloc (Nat.le_refl _) (.cells #[zI zL tn,zI zL td] 31)
 have AV:=zH (A1.out.bel hba)
 have RV:=zH (R1.out.bel hba)
 have SV:=zH (S1.out.bel hba)
 have BV:=zH (B1.out.trans (hba.mono B1.out.size))
 go_wp2_with fail
 clear hba c0 c1 c2 c3 c4 f0 f1 f2 f3 f4 e0 e1 e2 e3 e4 g0 g1 g2 g3 g4 a0 a1 a2 a3 a4 A1 R1 S1 B1
 generalize v1.alloc (.cells #[zI zL tn,zI zL td] 31)=V at *
 obtain⟨c0,c1,c2,c3,c4,-,-,-,-,-⟩:=AV.out
 go_region_with (first
  | (go_at_call 19;refine(KO.out _ (SV.out.bel (Below.refl _ _).drew)).mono ?_;rintro _ v2 ⟨rfl,hv2⟩;have B2:=zH ((Below.refl V.heap.size V).drew.trans hv2);obtain⟨d0,d1,d2,d3,d4,-,-,-,-,-⟩:=AV.out.bel B2.out)
  | (go_at_call 27;refine(KF.out _ _).mono ?_;rintro _ v3 ⟨rfl,hv3⟩;have B3:=zH (B2.out.trans (hv3.mono B2.out.size));have B4:=zH (BV.out.trans (B3.out.mono BV.out.size));obtain⟨e0,e1,e2,e3,e4,g0,g1,g2,g3,g4⟩:=RV.out.bel B3.out))
 all_goals
  go_wp2_with fail
  exact bodyPost_ret (v:= .tuple #[zI zL 0,.agg #[.slice (some ⟨b,off,none⟩) n cap,zI zL k,zI zL En,zI zL 3,zI zL (ag ts En (n-k))]]) (by simp[results,Tryz.results45,go_sem,e0,e1,e2,e3,e4]) rfl ⟨rfl,zak⟩
theorem pQ (ts:List Tok)(p:Option Addr)(b off cap n k En:Nat)(O:Int)(w:World)(hS:SlT w p b off n ts)(_hwf:Wf ts)(hkt:k<ts.length)(h1:isN (ts.drop k)=true)(h2:which units (ts.drop (k+1))=none) :
  Calls Tryz.prog 71 #[.agg #[.slice p n cap,zI zL k,zI zL En,zI zL 0,zI zL O]] w fun e w'=>bO w ts p n cap En (k+1:Nat) 0 O (some (Tree.mk 1 (n-k) [] ts[k].n ts[k].d 1 [])) e w':=by
 have hmx:=hS.max
 have hl:=hS.ln
 have hk1:IntKind.i64.wrap ((k:Int)+1)=((k+1:Nat):Int):=zal
 have hk3:IntKind.i64.wrap (k:Int)=(k:Int):=IntWalk.i64_in _ zac
 have hz:(k:Int)<(n:Int):=zac
 have hp:=hS.ptr zac
 have KO:=zH (fun w hS=>aj ts p b off cap n k En 0 O w hS zac)
 have KN:=zH (fun w hS=>bR ts p b off cap n k En O w hS)
 rw[h1] at KN
 have KW:Hid (∀w p2 b2 cap2,SlT w p b off n ts->SlS w p2 b2 0 5 units->Calls Tryz.prog 42 #[.agg #[.slice p n cap,zI zL ((k:Int)+1),zI zL En,zI zL 0,zI zL O],.slice p2 5 cap2] w fun e w'=>e = .returned (zI zL (-1))/\RowKit.Below w.heap.size w w'):=fun w p2 b2 cap2 hS hL=>by
  have h:=bM units ts p p2 b off cap n (k+1) b2 0 cap2 5 En O w hS hL
  rw[h2] at h
  exact h
 have HC:=zH (fun v (h:RowKit.Below w.heap.size w v)=>(hS.bel h).cells k hkt)
 have HS:=zH hS
 have HP:Hid (∀w',RowKit.Below w.heap.size w w'->bO w ts p n cap En ((k:Int)+1) 0 O (some (Tree.mk 1 (n-k) [] ts[k].n ts[k].d 1 [])) (.returned (.tuple #[.agg #[zI zL 1,zI zL (ag ts En (n-k)),.string ⟨#[]⟩,zI zL ts[k].n,zI zL ts[k].d,.bool false,zI zL 0,zI zL 0,zI zL 0,.slice none 0 0],.agg #[.slice p n cap,zI zL ((k:Int)+1),zI zL En,zI zL 0,zI zL O]])) w'):=fun w' hb =>
  ⟨⟨1,ag ts En (n-k),⟨#[]⟩,ts[k].n,ts[k].d,false,0,0,0,none,0,0⟩,rfl,fun u hu=>by cases hu;exact bP w' w.heap.size (ag ts En) 1 (n-k) [] ts[k].n ts[k].d 1,hb⟩
 generalize (some (Tree.mk 1 (n-k) [] ts[k].n ts[k].d 1 []))=tt at *
 generalize ag ts En (n-k)=at0 at *
 generalize ts[k]=t at *
 obtain⟨tk,ta,tx,tn,td⟩:=t
 clear h1 h2 hS _hwf
 subst hp
 obtain⟨W3,hW3⟩:∃W3,W3=((w.alloc (.cells #[.slice (some ⟨b,off,none⟩) n cap,zI zL k,zI zL En,zI zL 0,zI zL O] 62)).alloc (.cells #[zI zL 0,zI zL 0,.string ⟨#[]⟩,zI zL 0,zI zL 0,.bool false,zI zL 0,zI zL 0,zI zL 0,.slice none 0 0] 36)).alloc (.cells #[.slice none 0 0,zI zL 0,zI zL 0,zI zL 0,zI zL 0] 62):=⟨_,rfl⟩
 have F:=zH (Fr.new w (some ⟨b,off,none⟩) n cap k En 0 O 62 36)
 rw[<-hW3] at F
 go_enter Tryz.func71,Tryz.ntmps71
 go_wp2_with fail
 rw[<-hW3]
 clear hW3
 refine(KO.out _ (HS.out.bel F.out.B)).mono ?_
 rintro _ v1 ⟨rfl,hb⟩
 replace F:=zH (F.out.bel hb)
 clear hb
 obtain⟨c0,c1,c2,c3,c4,f0,f1,f2,f3,f4⟩:=F.out.A
 go_wp2_with fail
 refine(KN.out _ (HS.out.bel F.out.B)).mono ?_
 rintro _ v2 ⟨rfl,hb⟩
 replace F:=zH (F.out.bel hb)
 clear c0 c1 c2 c3 c4 f0 f1 f2 f3 f4
 clear hb
 obtain⟨c0,c1,c2,c3,c4,f0,f1,f2,f3,f4⟩:=F.out.A
 obtain⟨a0,a1,a2,a3,a4⟩:=HC.out v2 F.out.B
 have hsz:w.heap.size<v2.heap.size:=World.block_lt_of_cell? _ _ c0
 have hv1:w.heap.size+2<v2.heap.size:=World.block_lt_of_cell? _ _ F.out.R.c0
 go_wp2_with fail
 have ha:=(Below.refl (v2.setCell ⟨w.heap.size,1,none⟩ (zI zL ((k:Int)+1))).heap.size (v2.setCell ⟨w.heap.size,1,none⟩ (zI zL ((k:Int)+1)))).alloc (Nat.le_refl _) (.cells #[zI zL 1,zI zL at0,.string ⟨#[]⟩,zI zL tn,zI zL td,.bool false,zI zL 0,zI zL 0,zI zL 0,.slice none 0 0] 36)
 have X:=zH (B10.new (v2.setCell ⟨w.heap.size,1,none⟩ (zI zL ((k:Int)+1))) (zI zL 1) (zI zL at0) (.string ⟨#[]⟩) (zI zL tn) (zI zL td) (.bool false) (zI zL 0) (zI zL 0) (zI zL 0) (.slice none 0 0) 36)
 rw[show(v2.setCell ⟨w.heap.size,1,none⟩ (zI zL ((k:Int)+1))).heap.size=v2.heap.size by simp[World.setCell]] at X
 replace F:=zH ((F.out.inc ((k:Int)+1)).bel ha)
 clear ha c0 c1 c2 c3 c4 f0 f1 f2 f3 f4 a0 a1 a2 a3 a4
 generalize (v2.setCell ⟨w.heap.size,1,none⟩ (zI zL ((k:Int)+1))).alloc (.cells #[zI zL 1,zI zL at0,.string ⟨#[]⟩,zI zL tn,zI zL td,.bool false,zI zL 0,zI zL 0,zI zL 0,.slice none 0 0] 36)=V at *
 obtain⟨c0,c1,c2,c3,c4,-,-,-,-,-⟩:=F.out.A
 have hS:(V.drew.cell? ⟨w.heap.size,0,none⟩=some (.slice (some ⟨b,off,none⟩) n cap)/\V.drew.cell? ⟨w.heap.size,1,none⟩=some (zI zL ((k:Int)+1))/\V.drew.cell? ⟨w.heap.size,2,none⟩=some (zI zL En)/\V.drew.cell? ⟨w.heap.size,3,none⟩=some (zI zL 0)/\V.drew.cell? ⟨w.heap.size,4,none⟩=some (zI zL O)):=⟨c0,c1,c2,c3,c4⟩
 refine wp_region_held (S:=fun w':World=>(w'.cell? ⟨w.heap.size,0,none⟩=some (.slice (some ⟨b,off,none⟩) n cap)/\w'.cell? ⟨w.heap.size,1,none⟩=some (zI zL ((k:Int)+1))/\w'.cell? ⟨w.heap.size,2,none⟩=some (zI zL En)/\w'.cell? ⟨w.heap.size,3,none⟩=some (zI zL 0)/\w'.cell? ⟨w.heap.size,4,none⟩=some (zI zL O))) mixed ?_
 change wpAnyH _ _ _ _ _ _ _ _ V.drew
 refine tk0 (v:=?_) zab zab zab (fun _ _ _ h=>h) (Or.inl ⟨by rfl,?_⟩) hS ?_
 rotate_left
 ·(intro w hSw;(try dsimp only at hSw);go_simp;try with_reducible rfl)
 simp only[Act.put,zA,zB,zC]
 refine wpAnyH_ready (rs:=[1]) zab (by simp) (st1 (fun K hK=>?_) AllReadyH.nil)
 go_simp
 refine(dY _).mono ?_
 rintro _ v5 ⟨q5,b5,cap5,rfl,hs5,hb5⟩
 go_wp2_with fail
 have hb5':=(Below.refl V.heap.size V).drew.trans hb5
 replace F:=zH (F.out.bel hb5')
 replace X:=zH (X.out.bel hb5')
 clear hb5 c0 c1 c2 c3 c4
 obtain⟨c0,c1,c2,c3,c4,-,-,-,-,-⟩:=F.out.A
 refine hK.out _ _ ?_ (fun hHeld=>?_)
 ·exact⟨c0,c1,c2,c3,c4⟩
 clear hK K
 try simp only[Act.put,zA,zB,zC]
 refine wpAnyH_ready (rs:=[2]) zab (by simp) (st2 (fun K hK=>?_) AllReadyH.nil)
 go_simp
 refine(KW.out _ _ _ _ (HS.out.bel F.out.B) hs5).mono ?_
 rintro _ v6 ⟨rfl,hb6⟩
 go_wp2_with fail
 replace F:=zH (F.out.bel hb6)
 replace X:=zH (X.out.bel hb6)
 clear hb5' hs5 c0 c1 c2 c3 c4
 obtain⟨c0,c1,c2,c3,c4,-,-,-,-,-⟩:=F.out.A
 refine hK.out _ _ ?_ (fun hHeld=>?_)
 ·exact⟨c0,c1,c2,c3,c4⟩
 clear hK K
 try simp only[Act.put,zA,zB,zC]
 refine wpAnyH_ready (rs:=[3]) zab (by simp) (st3 (fun K hK=>?_) AllReadyH.nil)
 go_simp
 refine hK.out _ _ ?_ (fun hHeld=>?_)
 ·exact⟨c0,c1,c2,c3,c4⟩
 clear hK K
 try simp only[Act.put,zA,zB,zC]
 refine wpAnyH_done zab ?_ _
 clear hS
 go_wp2_with fail
 obtain⟨x0,x1,x2,x3,x4,x5,x6,x7,x8,x9,-,-,-,-,-,-,-,-,-,-⟩:=X.out
 obtain⟨n0,n1,n2,n3,n4,n5,n6,n7,n8,n9,m0,m1,m2,m3,m4,m5,m6,m7,m8,m9⟩:=F.out.N
 obtain⟨e0,e1,e2,e3,e4,g0,g1,g2,g3,g4⟩:=F.out.R
 have BV:=zH F.out.B
 have hS:(v6.drew.cell? ⟨v2.heap.size,0,none⟩=some (zI zL 1)/\v6.drew.cell? ⟨v2.heap.size,1,none⟩=some (zI zL at0)/\v6.drew.cell? ⟨v2.heap.size,2,none⟩=some (.string ⟨#[]⟩)/\v6.drew.cell? ⟨v2.heap.size,3,none⟩=some (zI zL tn)/\v6.drew.cell? ⟨v2.heap.size,4,none⟩=some (zI zL td)/\v6.drew.cell? ⟨v2.heap.size,5,none⟩=some (.bool false)/\v6.drew.cell? ⟨v2.heap.size,6,none⟩=some (zI zL 0)/\v6.drew.cell? ⟨v2.heap.size,7,none⟩=some (zI zL 0)/\v6.drew.cell? ⟨v2.heap.size,8,none⟩=some (zI zL 0)/\v6.drew.cell? ⟨v2.heap.size,9,none⟩=some (.slice none 0 0))/\(v6.drew.cell? ⟨w.heap.size,0,none⟩=some (.slice (some ⟨b,off,none⟩) n cap)/\v6.drew.cell? ⟨w.heap.size,1,none⟩=some (zI zL ((k:Int)+1))/\v6.drew.cell? ⟨w.heap.size,2,none⟩=some (zI zL En)/\v6.drew.cell? ⟨w.heap.size,3,none⟩=some (zI zL 0)/\v6.drew.cell? ⟨w.heap.size,4,none⟩=some (zI zL O)):=⟨⟨x0,x1,x2,x3,x4,x5,x6,x7,x8,x9⟩,⟨c0,c1,c2,c3,c4⟩⟩
 refine wp_region_held (S:=fun w':World=>(w'.cell? ⟨v2.heap.size,0,none⟩=some (zI zL 1)/\w'.cell? ⟨v2.heap.size,1,none⟩=some (zI zL at0)/\w'.cell? ⟨v2.heap.size,2,none⟩=some (.string ⟨#[]⟩)/\w'.cell? ⟨v2.heap.size,3,none⟩=some (zI zL tn)/\w'.cell? ⟨v2.heap.size,4,none⟩=some (zI zL td)/\w'.cell? ⟨v2.heap.size,5,none⟩=some (.bool false)/\w'.cell? ⟨v2.heap.size,6,none⟩=some (zI zL 0)/\w'.cell? ⟨v2.heap.size,7,none⟩=some (zI zL 0)/\w'.cell? ⟨v2.heap.size,8,none⟩=some (zI zL 0)/\w'.cell? ⟨v2.heap.size,9,none⟩=some (.slice none 0 0))/\(w'.cell? ⟨w.heap.size,0,none⟩=some (.slice (some ⟨b,off,none⟩) n cap)/\w'.cell? ⟨w.heap.size,1,none⟩=some (zI zL ((k:Int)+1))/\w'.cell? ⟨w.heap.size,2,none⟩=some (zI zL En)/\w'.cell? ⟨w.heap.size,3,none⟩=some (zI zL 0)/\w'.cell? ⟨w.heap.size,4,none⟩=some (zI zL O))) mixed ?_
 change wpAnyH _ _ _ _ _ _ _ _ v6.drew
 refine tk0 (v:=?_) zab zab zab (fun _ _ _ h=>h) (Or.inl ⟨by rfl,?_⟩) hS ?_
 rotate_left
 ·(intro w hSw;(try dsimp only at hSw);go_simp;try with_reducible rfl)
 simp only[Act.put,zA,zB,zC]
 refine tk1 (v:=?_) zab zab zab (fun _ _ _ h=>h) (Or.inl ⟨by rfl,?_⟩) hS ?_
 rotate_left
 ·(intro w hSw;(try dsimp only at hSw);go_simp;try with_reducible rfl)
 simp only[Act.put,zA,zB,zC]
 refine wpAnyH_ready (rs:=[2]) zab (by simp) (st2 (fun K hK=>?_) AllReadyH.nil)
 go_simp
 refine hK.out _ _ ?_ (fun hHeld=>?_)
 ·exact Cw
 clear hK K
 try simp only[Act.put,zA,zB,zC]
 refine wpAnyH_ready (rs:=[3]) zab (by simp) (st3 (fun K hK=>?_) AllReadyH.nil)
 go_simp
 refine hK.out _ _ ?_ (fun hHeld=>?_)
 ·exact Cw
 clear hK K
 try simp only[Act.put,zA,zB,zC]
 refine wpAnyH_done zab ?_ _
 go_wp2_with fail
 exact bodyPost_ret (v:= .tuple #[.agg #[zI zL 1,zI zL at0,.string ⟨#[]⟩,zI zL tn,zI zL td,.bool false,zI zL 0,zI zL 0,zI zL 0,.slice none 0 0],.agg #[.slice (some ⟨b,off,none⟩) n cap,zI zL ((k:Int)+1),zI zL En,zI zL 0,zI zL O]]) zap rfl (HP.out _ zae)
end Go.Proofs.YtnjfolljbfkojaaGreatDoor
