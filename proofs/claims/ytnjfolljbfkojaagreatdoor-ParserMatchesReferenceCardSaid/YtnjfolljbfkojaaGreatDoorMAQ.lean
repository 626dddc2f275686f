import Derived.Test.YtnjfolljbfkojaaGreatDoorMAP
set_option maxRecDepth 100000
set_option maxHeartbeats 20000000
namespace Go.Proofs.YtnjfolljbfkojaaGreatDoor
open Go.Value renaming int→zI
open Go.IntKind renaming i64→zL
open Go.Lib renaming hid→zH
open Go.RowKit Lx Pa
def M0 (n d:Int):Int×Int×Int:=op2 n d 100 1 (n*100) (d*1)
def EW (M:Int->Int->Int×Int×Int)(t:Tok)(r:List Tok):Out Tree:=match which units r with
 | none=> .ok (.mk 1 (r.length+1) [] t.n t.d 1 []) r
 | some u=>if u=2 then (if (M t.n t.d).2.2=0 then .ok (.mk 1 (r.length+1) [] (M t.n t.d).1 (M t.n t.d).2.1 2 []) r.tail else .er 3 (r.length+1) (r.length-1))
  else .ok (.mk 1 (r.length+1) [] t.n t.d u []) r.tail
def vX (lo:Nat)(ofs:Nat->Int)(t:Tree)(v:Value)(w:World):Prop:=∃x,v=nv x/\ah w lo ofs t x
theorem At2.put {w:World}{b:Nat}{x0 x1:Value}(h:At2 w b x0 x1)(y0 y1:Value):At2 ((w.setCell ⟨b,0,none⟩ y0).setCell ⟨b,1,none⟩ y1) b y0 y1:=by
 obtain⟨c0,c1,f0,f1⟩:=h
 exact⟨by simp[go_sem,c0],by simp[go_sem,c1],zcy,zcz⟩
theorem xP (k a n d:Int)(t:ByteArray)(w:World)(n0 : -9223372036854775808<=n)(n1:n<=9223372036854775807)(d0 : -9223372036854775808<=d)(d1:d<=9223372036854775807)(hz:(M0 n d).2.2=0) :
  Calls Tryz.prog 147 #[.agg #[zI zL k,zI zL a,.string t,zI zL n,zI zL d]] w fun e w'=>e = .returned (.agg #[zI zL (M0 n d).1,zI zL (M0 n d).2.1])/\RowKit.Below w.heap.size w w':=by
 have KM:=zH (fun w=>vW n d 100 1 w n0 n1 d0 d1 zac zac zac zac)
 have HR:=zH (Below.refl w.heap.size w)
 unfold M0 at hz |-
 generalize op2 n d 100 1 (n*100) (d*1)=r at *
 obtain⟨r0,r1,r2⟩:=r
 simp only at *
 clear n0 n1 d0 d1
 have B1:=zH (((Below.refl w.heap.size w).alloc (Nat.le_refl _) (.cells #[zI zL k,zI zL a,.string t,zI zL n,zI zL d] 86)).alloc (by simp) (.cells #[zI zL 0,zI zL 0] 31))
 have X1:=zH ((B5.new w (zI zL k) (zI zL a) (.string t) (zI zL n) (zI zL d) 86).bel ((Below.refl _ _).alloc (Nat.le_refl _) (.cells #[zI zL 0,zI zL 0] 31)))
 have Z1:=zH (At2.new (w.alloc (.cells #[zI zL k,zI zL a,.string t,zI zL n,zI zL d] 86)) (zI zL 0) (zI zL 0) 31)
 rw[World.size_alloc] at Z1
 subst hz
 go_enter Tryz.func147,Tryz.ntmps147
 go_wp2_with fail
 generalize (w.alloc (.cells #[zI zL k,zI zL a,.string t,zI zL n,zI zL d] 86)).alloc (.cells #[zI zL 0,zI zL 0] 31)=v at *
 refine(KM.out _).mono ?_
 rintro _ v1 ⟨rfl,hb⟩
 have B2:=zH (B1.out.trans (hb.mono B1.out.size))
 replace Z1:=zH (Z1.out.bel hb)
 replace X1:=zH (X1.out.bel hb)
 have NV:w.heap.size≠v1.heap.size:=by have:=World.block_lt_of_cell? _ _ X1.out.c0;simp at this;omega
 have NV2:w.heap.size+1≠v1.heap.size:=by have:=World.block_lt_of_cell? _ _ Z1.out.c0;simp at this;omega
 clear hb KM B1
 have Z2:=zH (Z1.out.bel ((Below.refl _ _).alloc (Nat.le_refl _) (.cells #[zI zL r0,zI zL r1] 31)))
 obtain⟨z0,z1,g0,g1⟩:=Z2.out
 clear X1 Z1
 have hbs:=B2.out.size
 go_wp2_with fail
 refine(?_:∀F:World,At2 F (w.heap.size+1) (zI zL r0) (zI zL r1)->RowKit.Below w.heap.size w F->bodyPost _ _ _ _ _ F) _ (Z2.out.put _ _) zaw
 intro F hF hB
 obtain⟨y0,y1,-,-⟩:=hF
 exact bodyPost_ret (v:= .agg #[zI zL r0,zI zL r1]) (by simp[results,Tryz.results147,go_sem,y0,y1]) rfl ⟨rfl,hB⟩
theorem xH (k a n d:Int)(t:ByteArray)(w:World)(n0 : -9223372036854775808<=n)(n1:n<=9223372036854775807)(d0 : -9223372036854775808<=d)(d1:d<=9223372036854775807)(hz:(M0 n d).2.2≠0) :
  Calls Tryz.prog 147 #[.agg #[zI zL k,zI zL a,.string t,zI zL n,zI zL d]] w fun e w'=>e = .panicked (gK 3 a)/\RowKit.Below w.heap.size w w':=by
 have KM:=zH (fun w=>vW n d 100 1 w n0 n1 d0 d1 zac zac zac zac)
 have HR:=zH (Below.refl w.heap.size w)
 unfold M0 at hz
 generalize op2 n d 100 1 (n*100) (d*1)=r at *
 obtain⟨r0,r1,r2⟩:=r
 simp only at *
 clear n0 n1 d0 d1
 have B1:=zH (((Below.refl w.heap.size w).alloc (Nat.le_refl _) (.cells #[zI zL k,zI zL a,.string t,zI zL n,zI zL d] 86)).alloc (by simp) (.cells #[zI zL 0,zI zL 0] 31))
 have X1:=zH ((B5.new w (zI zL k) (zI zL a) (.string t) (zI zL n) (zI zL d) 86).bel ((Below.refl _ _).alloc (Nat.le_refl _) (.cells #[zI zL 0,zI zL 0] 31)))
 have Z1:=zH (At2.new (w.alloc (.cells #[zI zL k,zI zL a,.string t,zI zL n,zI zL d] 86)) (zI zL 0) (zI zL 0) 31)
 rw[World.size_alloc] at Z1
 have e1:(r2==0)=false:=by simpa using hz
 go_enter Tryz.func147,Tryz.ntmps147
 go_wp2_with fail
 generalize (w.alloc (.cells #[zI zL k,zI zL a,.string t,zI zL n,zI zL d] 86)).alloc (.cells #[zI zL 0,zI zL 0] 31)=v at *
 refine(KM.out _).mono ?_
 rintro _ v1 ⟨rfl,hb⟩
 have B2:=zH (B1.out.trans (hb.mono B1.out.size))
 replace Z1:=zH (Z1.out.bel hb)
 replace X1:=zH (X1.out.bel hb)
 have NV:w.heap.size≠v1.heap.size:=by have:=World.block_lt_of_cell? _ _ X1.out.c0;simp at this;omega
 have NV2:w.heap.size+1≠v1.heap.size:=by have:=World.block_lt_of_cell? _ _ Z1.out.c0;simp at this;omega
 clear hb KM B1
 obtain⟨x0,x1,x2,x3,x4,-,-,-,-,-⟩:=X1.out.bel ((Below.refl _ _).alloc (Nat.le_refl _) (.cells #[zI zL r0,zI zL r1] 31))
 have hbs:=B2.out.size
 clear Z1
 go_wp2_with fail
 refine(lD _ _ _).mono ?_
 rintro _ _ ⟨rfl,rfl⟩
 go_wp2_with fail
 exact aa rfl ⟨rfl,zaw⟩
section
variable {b cap qb En mb k:Nat} {p:Option Addr} {ts:List Tok}
theorem yE (w:World)(h:Rd w b p cap qb ts En mb k)(hk:(pk ts En k).k=2)(hu:idx units (pk ts En (k+1)).t=none) :
  Calls Tryz.prog 144 #[.pointer (some ⟨b,0,none⟩)] w fun e w'=>ak w b p cap qb ts En mb (vX w.heap.size (ag ts En)) (.ok (.mk 1 (ts.length-k) [] (pk ts En k).n (pk ts En k).d 1 []) (ts.drop (k+1))) e w':=by
 have hf:=dh
 have hk1:=dB h.kl h.tk.max
 have hl:k<ts.length:=jI (En:=En) (by rw[hk];decide)
 have KP:=zH (fun w h=>aC (b:=b) (cap:=cap) (qb:=qb) (En:=En) (mb:=mb) (k:=k) (p:=p) (ts:=ts) w h)
 have KP2:=zH (fun w h=>aC (b:=b) (cap:=cap) (qb:=qb) (En:=En) (mb:=mb) (k:=k+1) (p:=p) (ts:=ts) w h)
 have S0:=zH ((Sx.start h).alloc (.cells mU.toArray 36))
 have R0:=zH (B10.new w (zI zL 0) (zI zL 0) (.string ⟨#[]⟩) (zI zL 0) (zI zL 0) (.bool false) (zI zL 0) (zI zL 0) (zI zL 0) (.slice none 0 0) 36)
 have HO:Hid ((pk ts En k).a=ag ts En (ts.length-k)):=bF h.kl
 have NB:w.heap.size≠b:=zbd
 clear h
 generalize pk ts En k=t at *
 obtain⟨tk,ta,tt,tn,td⟩:=t
 simp only at hk
 subst hk
 generalize pk ts En (k+1)=t2 at *
 obtain⟨uk,ua,ut,un,ud⟩:=t2
 have KU:=zH (fun w=>eH ut w)
 simp only at hu
 rw[hu] at KU
 clear hu
 unfold fI at KP KP2
 unfold mU at S0
 go_enter Tryz.func144,Tryz.ntmps144
 go_wp2_with fail
 refine(KP.out _ S0.out.rd).mono ?_
 rintro _ v ⟨rfl,hb⟩
 have S1:=zH ((S0.out.bel hb).alloc (kK 2 ta tn td (bs tt)))
 have R1:=zH ((R0.out.bel hb).bel ((Below.refl _ _).alloc (Nat.le_refl _) (kK 2 ta tn td (bs tt))))
 have X1:=zH (B5.new v (zI zL 2) (zI zL ta) (.string (bs tt)) (zI zL tn) (zI zL td) 86)
 have NB1:v.heap.size≠b:=zam
 have NB3:v.heap.size+1≠b:=zam
 have NR:w.heap.size<v.heap.size:=zby
 clear hb S0 R0 KP
 unfold kK at S1 R1
 obtain⟨x0,x1,x2,x3,x4,-,-,-,-,-⟩:=X1.out
 obtain⟨-,c1,-,-,f1,-,-,-,-,-,-⟩:=S1.out.rd
 have S2:=zH ((S1.out.next hl).alloc (.cells #[zI zL 1,zI zL ta,.string ⟨#[]⟩,zI zL tn,zI zL td,.bool false,zI zL 0,zI zL 0,zI zL 0,.slice none 0 0] 36))
 have N2:=zH (B10.new ((v.alloc (.cells #[zI zL 2,zI zL ta,.string (bs tt),zI zL tn,zI zL td] 86)).setCell ⟨b,1,none⟩ (zI zL (k+1:Nat))) (zI zL 1) (zI zL ta) (.string ⟨#[]⟩) (zI zL tn) (zI zL td) (.bool false) (zI zL 0) (zI zL 0) (zI zL 0) (.slice none 0 0) 36)
 have R2:=zH ((R1.out.other NB 1 none (zI zL (k+1:Nat))).bel ((Below.refl _ _).alloc (Nat.le_refl _) (.cells #[zI zL 1,zI zL ta,.string ⟨#[]⟩,zI zL tn,zI zL td,.bool false,zI zL 0,zI zL 0,zI zL 0,.slice none 0 0] 36)))
 have X2:=zH ((X1.out.other NB1 1 none (zI zL (k+1:Nat))).bel ((Below.refl _ _).alloc (Nat.le_refl _) (.cells #[zI zL 1,zI zL ta,.string ⟨#[]⟩,zI zL tn,zI zL td,.bool false,zI zL 0,zI zL 0,zI zL 0,.slice none 0 0] 36)))
 rw[show((v.alloc (.cells #[zI zL 2,zI zL ta,.string (bs tt),zI zL tn,zI zL td] 86)).setCell ⟨b,1,none⟩ (zI zL (k+1:Nat))).heap.size=v.heap.size+1 by simp[World.setCell]] at N2
 go_wp2_with fail
 clear x0 x1 x2 x3 x4 c1 f1 S1 R1 X1
 change Calls _ _ _ (((v.alloc (.cells #[zI zL 2,zI zL ta,.string (bs tt),zI zL tn,zI zL td] 86)).setCell ⟨b,1,none⟩ (zI zL (k+1:Nat))).alloc (.cells #[zI zL 1,zI zL ta,.string ⟨#[]⟩,zI zL tn,zI zL td,.bool false,zI zL 0,zI zL 0,zI zL 0,.slice none 0 0] 36)) _
 generalize (((v.alloc (.cells #[zI zL 2,zI zL ta,.string (bs tt),zI zL tn,zI zL td] 86)).setCell ⟨b,1,none⟩ (zI zL (k+1:Nat))).alloc (.cells #[zI zL 1,zI zL ta,.string ⟨#[]⟩,zI zL tn,zI zL td,.bool false,zI zL 0,zI zL 0,zI zL 0,.slice none 0 0] 36))=V at *
 refine(KP2.out _ S2.out.rd).mono ?_
 rintro _ v3 ⟨rfl,hb⟩
 have S3:=zH (S2.out.bel hb)
 have N3:=zH (N2.out.bel hb)
 have R3:=zH (R2.out.bel hb)
 have X3:=zH (X2.out.bel hb)
 clear hb S2 N2 R2 X2 KP2
 go_wp2_with fail
 refine(KU.out _).mono ?_
 rintro _ v4 ⟨rfl,hb⟩
 have hB4:=hb.alloc (by exact hb.size) (.cells #[.bool false,zI zL 0,zI zL 0,zI zL 0] 33)
 have S4:=zH (S3.out.bel hB4)
 have N4:=zH (N3.out.bel hB4)
 have R4:=zH (R3.out.bel hB4)
 have X4:=zH (X3.out.bel hB4)
 clear hb hB4 S3 N3 R3 X3 KU
 unfold uV
 obtain⟨n0,n1,n2,n3,n4,n5,n6,n7,n8,n9,-,-,-,-,-,-,-,-,-,-⟩:=N4.out
 obtain⟨r0,r1,r2,r3,r4,r5,r6,r7,r8,r9,q0,q1,q2,q3,q4,q5,q6,q7,q8,q9⟩:=R4.out
 go_wp2_with fail
 refine(?_:∀F:World,B10 F w.heap.size (zI zL 1) (zI zL ta) (.string ⟨#[]⟩) (zI zL tn) (zI zL td) (.bool (uF 1)) (zI zL (uM 1)) (zI zL (uA 1)) (zI zL (uD 1)) (.slice none 0 0)->Sx w F b p cap qb ts En mb (k+1)->bodyPost _ _ _ _ _ F) _ (R4.out.put _ _ _ _ _ _ _ _ _ _) ?_
 ·intro F hF hS
  obtain⟨y0,y1,y2,y3,y4,y5,y6,y7,y8,y9,-,-,-,-,-,-,-,-,-,-⟩:=hF
  refine bodyPost_ret (v:= .agg #[zI zL 1,zI zL ta,.string ⟨#[]⟩,zI zL tn,zI zL td,.bool (uF 1),zI zL (uM 1),zI zL (uA 1),zI zL (uD 1),.slice none 0 0]) zcq rfl (ak.ok rfl ⟨⟨1,ta,⟨#[]⟩,tn,td,uF 1,uM 1,uA 1,uD 1,none,0,0⟩,rfl,?_⟩ hS)
  rw[HO.out]
  exact bP F w.heap.size (ag ts En) 1 (ts.length-k) [] tn td 1
 ·exact ED
theorem B10.unit {w:World}{b:Nat}{x0 x1 x2 x3 x4 x5 x6 x7 x8 x9:Value}(h:B10 w b x0 x1 x2 x3 x4 x5 x6 x7 x8 x9)(y5 y6 y7 y8:Value) :
  B10 ((((w.setCell ⟨b,5,none⟩ y5).setCell ⟨b,6,none⟩ y6).setCell ⟨b,7,none⟩ y7).setCell ⟨b,8,none⟩ y8) b x0 x1 x2 x3 x4 y5 y6 y7 y8 x9:=by
 obtain⟨c0,c1,c2,c3,c4,c5,c6,c7,c8,c9,f0,f1,f2,f3,f4,f5,f6,f7,f8,f9⟩:=h
 exact Ex
theorem zu (w:World)(h:Rd w b p cap qb ts En mb k)(hk:(pk ts En k).k=2)(u:Nat)(hu:idx units (pk ts En (k+1)).t=some u)(hu2:u≠2) :
  Calls Tryz.prog 144 #[.pointer (some ⟨b,0,none⟩)] w fun e w'=>ak w b p cap qb ts En mb (vX w.heap.size (ag ts En)) (.ok (.mk 1 (ts.length-k) [] (pk ts En k).n (pk ts En k).d u []) (ts.drop (k+1+1))) e w':=by
 have hf:=dh
 have hk1:=dB h.kl h.tk.max
 have hl:k<ts.length:=jI (En:=En) (by rw[hk];decide)
 have KP:=zH (fun w h=>aC (b:=b) (cap:=cap) (qb:=qb) (En:=En) (mb:=mb) (k:=k) (p:=p) (ts:=ts) w h)
 have KP2:=zH (fun w h=>aC (b:=b) (cap:=cap) (qb:=qb) (En:=En) (mb:=mb) (k:=k+1) (p:=p) (ts:=ts) w h)
 have S0:=zH ((Sx.start h).alloc (.cells mU.toArray 36))
 have R0:=zH (B10.new w (zI zL 0) (zI zL 0) (.string ⟨#[]⟩) (zI zL 0) (zI zL 0) (.bool false) (zI zL 0) (zI zL 0) (zI zL 0) (.slice none 0 0) 36)
 have HO:Hid ((pk ts En k).a=ag ts En (ts.length-k)):=bF h.kl
 have NB:w.heap.size≠b:=zbd
 have KN:=zH (fun w (h:Rd w b p cap qb ts En mb (k+1))=>jq w h)
 rw[jr (En:=En) h.ok,hu] at KN
 clear h
 generalize pk ts En k=t at *
 obtain⟨tk,ta,tt,tn,td⟩:=t
 simp only at hk
 subst hk
 generalize pk ts En (k+1)=t2 at *
 obtain⟨uk,ua,ut,un,ud⟩:=t2
 have KU:=zH (fun w=>eH ut w)
 simp only at hu
 rw[hu] at KU
 clear hu
 unfold fI at KP KP2
 unfold mU at S0
 go_enter Tryz.func144,Tryz.ntmps144
 go_wp2_with fail
 refine(KP.out _ S0.out.rd).mono ?_
 rintro _ v ⟨rfl,hb⟩
 have S1:=zH ((S0.out.bel hb).alloc (kK 2 ta tn td (bs tt)))
 have R1:=zH ((R0.out.bel hb).bel ((Below.refl _ _).alloc (Nat.le_refl _) (kK 2 ta tn td (bs tt))))
 have X1:=zH (B5.new v (zI zL 2) (zI zL ta) (.string (bs tt)) (zI zL tn) (zI zL td) 86)
 have NB1:v.heap.size≠b:=zam
 have NB3:v.heap.size+1≠b:=zam
 have NR:w.heap.size<v.heap.size:=zby
 clear hb S0 R0 KP
 unfold kK at S1 R1
 obtain⟨x0,x1,x2,x3,x4,-,-,-,-,-⟩:=X1.out
 obtain⟨-,c1,-,-,f1,-,-,-,-,-,-⟩:=S1.out.rd
 have S2:=zH ((S1.out.next hl).alloc (.cells #[zI zL 1,zI zL ta,.string ⟨#[]⟩,zI zL tn,zI zL td,.bool false,zI zL 0,zI zL 0,zI zL 0,.slice none 0 0] 36))
 have N2:=zH (B10.new ((v.alloc (.cells #[zI zL 2,zI zL ta,.string (bs tt),zI zL tn,zI zL td] 86)).setCell ⟨b,1,none⟩ (zI zL (k+1:Nat))) (zI zL 1) (zI zL ta) (.string ⟨#[]⟩) (zI zL tn) (zI zL td) (.bool false) (zI zL 0) (zI zL 0) (zI zL 0) (.slice none 0 0) 36)
 have R2:=zH ((R1.out.other NB 1 none (zI zL (k+1:Nat))).bel ((Below.refl _ _).alloc (Nat.le_refl _) (.cells #[zI zL 1,zI zL ta,.string ⟨#[]⟩,zI zL tn,zI zL td,.bool false,zI zL 0,zI zL 0,zI zL 0,.slice none 0 0] 36)))
 have X2:=zH ((X1.out.other NB1 1 none (zI zL (k+1:Nat))).bel ((Below.refl _ _).alloc (Nat.le_refl _) (.cells #[zI zL 1,zI zL ta,.string ⟨#[]⟩,zI zL tn,zI zL td,.bool false,zI zL 0,zI zL 0,zI zL 0,.slice none 0 0] 36)))
 rw[show((v.alloc (.cells #[zI zL 2,zI zL ta,.string (bs tt),zI zL tn,zI zL td] 86)).setCell ⟨b,1,none⟩ (zI zL (k+1:Nat))).heap.size=v.heap.size+1 by simp[World.setCell]] at N2
 go_wp2_with fail
 clear x0 x1 x2 x3 x4 c1 f1 S1 R1 X1
 change Calls _ _ _ (((v.alloc (.cells #[zI zL 2,zI zL ta,.string (bs tt),zI zL tn,zI zL td] 86)).setCell ⟨b,1,none⟩ (zI zL (k+1:Nat))).alloc (.cells #[zI zL 1,zI zL ta,.string ⟨#[]⟩,zI zL tn,zI zL td,.bool false,zI zL 0,zI zL 0,zI zL 0,.slice none 0 0] 36)) _
 generalize (((v.alloc (.cells #[zI zL 2,zI zL ta,.string (bs tt),zI zL tn,zI zL td] 86)).setCell ⟨b,1,none⟩ (zI zL (k+1:Nat))).alloc (.cells #[zI zL 1,zI zL ta,.string ⟨#[]⟩,zI zL tn,zI zL td,.bool false,zI zL 0,zI zL 0,zI zL 0,.slice none 0 0] 36))=V at *
 refine(KP2.out _ S2.out.rd).mono ?_
 rintro _ v3 ⟨rfl,hb⟩
 have S3:=zH (S2.out.bel hb)
 have N3:=zH (N2.out.bel hb)
 have R3:=zH (R2.out.bel hb)
 have X3:=zH (X2.out.bel hb)
 clear hb S2 N2 R2 X2 KP2
 go_wp2_with fail
 refine(KU.out _).mono ?_
 rintro _ v4 ⟨rfl,hb⟩
 have hmu:(uM u==1)=false:=by simp[uM,hu2]
 have hB4:=hb.alloc (by exact hb.size) (.cells #[.bool (uF u),zI zL (uM u),zI zL (uA u),zI zL (uD u)] 33)
 have S4:=zH (S3.out.bel hB4)
 have N4:=zH (N3.out.bel hB4)
 have R4:=zH (R3.out.bel hB4)
 have X4:=zH (X3.out.bel hB4)
 have NRN:w.heap.size≠v.heap.size+1:=zac
 clear hb hB4 S3 N3 R3 X3 KU
 unfold uV
 go_wp2_with fail
 refine(KN.out _ S4.out.rd).mono ?_
 rintro _ v5 ⟨_,k',rfl,rfl,hkp,hrd,hq⟩
 have S5:=zH (S4.out.call hkp hrd)
 have N5:=zH (N4.out.call hkp NB3)
 have R5:=zH (R4.out.call hkp NB)
 have X5:=zH (X4.out.call hkp NB1)
 clear hkp hrd S4 N4 R4 X4 KN
 unfold uV
 obtain⟨n0,n1,n2,n3,n4,n5,n6,n7,n8,n9,m0,m1,m2,m3,m4,m5,m6,m7,m8,m9⟩:=N5.out
 obtain⟨r0,r1,r2,r3,r4,r5,r6,r7,r8,r9,q0,q1,q2,q3,q4,q5,q6,q7,q8,q9⟩:=R5.out
 go_wp2_with fail
 refine(?_:∀F:World,B10 F w.heap.size (zI zL 1) (zI zL ta) (.string ⟨#[]⟩) (zI zL tn) (zI zL td) (.bool (uF u)) (zI zL (uM u)) (zI zL (uA u)) (zI zL (uD u)) (.slice none 0 0)->Sx w F b p cap qb ts En mb k'->bodyPost _ _ _ _ _ F) _ ((((((R5.out.other NRN 5 none _).other NRN 6 none _).other NRN 7 none _).other NRN 8 none _)).put _ _ _ _ _ _ _ _ _ _) ?_
 ·intro F hF hS
  obtain⟨y0,y1,y2,y3,y4,y5,y6,y7,y8,y9,-,-,-,-,-,-,-,-,-,-⟩:=hF
  refine bodyPost_ret (v:= .agg #[zI zL 1,zI zL ta,.string ⟨#[]⟩,zI zL tn,zI zL td,.bool (uF u),zI zL (uM u),zI zL (uA u),zI zL (uD u),.slice none 0 0]) zcq rfl (ak.ok (by rw[hq]) ⟨⟨1,ta,⟨#[]⟩,tn,td,uF u,uM u,uA u,uD u,none,0,0⟩,rfl,?_⟩ hS)
  rw[HO.out]
  exact bP F w.heap.size (ag ts En) 1 (ts.length-k) [] (tn) (td) u
 ·exact((((((((((((((S5.out.other zac 5 _).other zac 6 _).other zac 7 _).other zac 8 _).other (Nat.le_refl _) 0 _).other (Nat.le_refl _) 1 _).other (Nat.le_refl _) 2 _).other (Nat.le_refl _) 3 _).other (Nat.le_refl _) 4 _).other (Nat.le_refl _) 5 _).other (Nat.le_refl _) 6 _).other (Nat.le_refl _) 7 _).other (Nat.le_refl _) 8 _).other (Nat.le_refl _) 9 _)
theorem vL (w:World)(h:Rd w b p cap qb ts En mb k)(hk:(pk ts En k).k=2)(hu:idx units (pk ts En (k+1)).t=some 2)(hz:(M0 (pk ts En k).n (pk ts En k).d).2.2=0) :
  Calls Tryz.prog 144 #[.pointer (some ⟨b,0,none⟩)] w fun e w'=>ak w b p cap qb ts En mb (vX w.heap.size (ag ts En)) (.ok (.mk 1 (ts.length-k) [] (M0 (pk ts En k).n (pk ts En k).d).1 (M0 (pk ts En k).n (pk ts En k).d).2.1 2 []) (ts.drop (k+1+1))) e w':=by
 have hf:=dh
 have hk1:=dB h.kl h.tk.max
 have hl:k<ts.length:=jI (En:=En) (by rw[hk];decide)
 have KP:=zH (fun w h=>aC (b:=b) (cap:=cap) (qb:=qb) (En:=En) (mb:=mb) (k:=k) (p:=p) (ts:=ts) w h)
 have KP2:=zH (fun w h=>aC (b:=b) (cap:=cap) (qb:=qb) (En:=En) (mb:=mb) (k:=k+1) (p:=p) (ts:=ts) w h)
 have S0:=zH ((Sx.start h).alloc (.cells mU.toArray 36))
 have R0:=zH (B10.new w (zI zL 0) (zI zL 0) (.string ⟨#[]⟩) (zI zL 0) (zI zL 0) (.bool false) (zI zL 0) (zI zL 0) (zI zL 0) (.slice none 0 0) 36)
 have HO:Hid ((pk ts En k).a=ag ts En (ts.length-k)):=bF h.kl
 have NB:w.heap.size≠b:=zbd
 have KN:=zH (fun w (h:Rd w b p cap qb ts En mb (k+1))=>jq w h)
 rw[jr (En:=En) h.ok,hu] at KN
 have HT : -9223372036854775808<=(pk ts En k).n/\(pk ts En k).n<=9223372036854775807/\-9223372036854775808<=(pk ts En k).d/\(pk ts En k).d<=9223372036854775807:=by rw[jO hl];exact(h.ok _ (List.getElem_mem hl)).2.2.2
 clear h
 generalize pk ts En k=t at *
 obtain⟨tk,ta,tt,tn,td⟩:=t
 simp only at hk hz HT
 subst hk
 generalize pk ts En (k+1)=t2 at *
 obtain⟨uk,ua,ut,un,ud⟩:=t2
 have KU:=zH (fun w=>eH ut w)
 simp only at hu
 rw[hu] at KU
 clear hu
 unfold fI at KP KP2
 unfold mU at S0
 go_enter Tryz.func144,Tryz.ntmps144
 go_wp2_with fail
 refine(KP.out _ S0.out.rd).mono ?_
 rintro _ v ⟨rfl,hb⟩
 have S1:=zH ((S0.out.bel hb).alloc (kK 2 ta tn td (bs tt)))
 have R1:=zH ((R0.out.bel hb).bel ((Below.refl _ _).alloc (Nat.le_refl _) (kK 2 ta tn td (bs tt))))
 have X1:=zH (B5.new v (zI zL 2) (zI zL ta) (.string (bs tt)) (zI zL tn) (zI zL td) 86)
 have NB1:v.heap.size≠b:=zam
 have NB3:v.heap.size+1≠b:=zam
 have NR:w.heap.size<v.heap.size:=zby
 clear hb S0 R0 KP
 unfold kK at S1 R1
 obtain⟨x0,x1,x2,x3,x4,-,-,-,-,-⟩:=X1.out
 obtain⟨-,c1,-,-,f1,-,-,-,-,-,-⟩:=S1.out.rd
 have S2:=zH ((S1.out.next hl).alloc (.cells #[zI zL 1,zI zL ta,.string ⟨#[]⟩,zI zL tn,zI zL td,.bool false,zI zL 0,zI zL 0,zI zL 0,.slice none 0 0] 36))
 have N2:=zH (B10.new ((v.alloc (.cells #[zI zL 2,zI zL ta,.string (bs tt),zI zL tn,zI zL td] 86)).setCell ⟨b,1,none⟩ (zI zL (k+1:Nat))) (zI zL 1) (zI zL ta) (.string ⟨#[]⟩) (zI zL tn) (zI zL td) (.bool false) (zI zL 0) (zI zL 0) (zI zL 0) (.slice none 0 0) 36)
 have R2:=zH ((R1.out.other NB 1 none (zI zL (k+1:Nat))).bel ((Below.refl _ _).alloc (Nat.le_refl _) (.cells #[zI zL 1,zI zL ta,.string ⟨#[]⟩,zI zL tn,zI zL td,.bool false,zI zL 0,zI zL 0,zI zL 0,.slice none 0 0] 36)))
 have X2:=zH ((X1.out.other NB1 1 none (zI zL (k+1:Nat))).bel ((Below.refl _ _).alloc (Nat.le_refl _) (.cells #[zI zL 1,zI zL ta,.string ⟨#[]⟩,zI zL tn,zI zL td,.bool false,zI zL 0,zI zL 0,zI zL 0,.slice none 0 0] 36)))
 rw[show((v.alloc (.cells #[zI zL 2,zI zL ta,.string (bs tt),zI zL tn,zI zL td] 86)).setCell ⟨b,1,none⟩ (zI zL (k+1:Nat))).heap.size=v.heap.size+1 by simp[World.setCell]] at N2
 go_wp2_with fail
 clear x0 x1 x2 x3 x4 c1 f1 S1 R1 X1
 change Calls _ _ _ (((v.alloc (.cells #[zI zL 2,zI zL ta,.string (bs tt),zI zL tn,zI zL td] 86)).setCell ⟨b,1,none⟩ (zI zL (k+1:Nat))).alloc (.cells #[zI zL 1,zI zL ta,.string ⟨#[]⟩,zI zL tn,zI zL td,.bool false,zI zL 0,zI zL 0,zI zL 0,.slice none 0 0] 36)) _
 generalize (((v.alloc (.cells #[zI zL 2,zI zL ta,.string (bs tt),zI zL tn,zI zL td] 86)).setCell ⟨b,1,none⟩ (zI zL (k+1:Nat))).alloc (.cells #[zI zL 1,zI zL ta,.string ⟨#[]⟩,zI zL tn,zI zL td,.bool false,zI zL 0,zI zL 0,zI zL 0,.slice none 0 0] 36))=V at *
 refine(KP2.out _ S2.out.rd).mono ?_
 rintro _ v3 ⟨rfl,hb⟩
 have S3:=zH (S2.out.bel hb)
 have N3:=zH (N2.out.bel hb)
 have R3:=zH (R2.out.bel hb)
 have X3:=zH (X2.out.bel hb)
 clear hb S2 N2 R2 X2 KP2
 go_wp2_with fail
 refine(KU.out _).mono ?_
 rintro _ v4 ⟨rfl,hb⟩
 have KC:=zH (fun w=>xP 2 ta tn td (bs tt) w HT.1 HT.2.1 HT.2.2.1 HT.2.2.2 hz)
 clear hz HT
 have hmu:(uM 2==1)=true:=rfl
 have hB4:=hb.alloc (by exact hb.size) (.cells #[.bool (uF 2),zI zL (uM 2),zI zL (uA 2),zI zL (uD 2)] 33)
 have S4:=zH (S3.out.bel hB4)
 have N4:=zH (N3.out.bel hB4)
 have R4:=zH (R3.out.bel hB4)
 have X4:=zH (X3.out.bel hB4)
 have NRN:w.heap.size≠v.heap.size+1:=zac
 clear hb hB4 S3 N3 R3 X3 KU
 unfold uV
 go_wp2_with fail
 refine(KN.out _ S4.out.rd).mono ?_
 rintro _ v5 ⟨_,k',rfl,rfl,hkp,hrd,hq⟩
 have S5:=zH (S4.out.call hkp hrd)
 have N5:=zH (N4.out.call hkp NB3)
 have R5:=zH (R4.out.call hkp NB)
 have X5:=zH (X4.out.call hkp NB1)
 clear hkp hrd S4 N4 R4 X4 KN
 unfold uV
 obtain⟨n0,n1,n2,n3,n4,n5,n6,n7,n8,n9,m0,m1,m2,m3,m4,m5,m6,m7,m8,m9⟩:=N5.out
 obtain⟨r0,r1,r2,r3,r4,r5,r6,r7,r8,r9,q0,q1,q2,q3,q4,q5,q6,q7,q8,q9⟩:=R5.out
 obtain⟨x0,x1,x2,x3,x4,-,-,-,-,-⟩:=X5.out
 have NXN:v.heap.size≠v.heap.size+1:=zac
 go_wp2_with fail
 have S6:Hid (Sx w ((((v5.setCell ⟨v.heap.size+1,5,none⟩ (.bool (uF 2))).setCell ⟨v.heap.size+1,6,none⟩ (zI zL (uM 2))).setCell ⟨v.heap.size+1,7,none⟩ (zI zL (uA 2))).setCell ⟨v.heap.size+1,8,none⟩ (zI zL (uD 2))) b p cap qb ts En mb k'):=((((S5.out.other zac 5 _).other zac 6 _).other zac 7 _).other zac 8 _)
 have N6:=zH (N5.out.unit (.bool (uF 2)) (zI zL (uM 2)) (zI zL (uA 2)) (zI zL (uD 2)))
 have R6:Hid (B10 ((((v5.setCell ⟨v.heap.size+1,5,none⟩ (.bool (uF 2))).setCell ⟨v.heap.size+1,6,none⟩ (zI zL (uM 2))).setCell ⟨v.heap.size+1,7,none⟩ (zI zL (uA 2))).setCell ⟨v.heap.size+1,8,none⟩ (zI zL (uD 2))) w.heap.size (zI zL 0) (zI zL 0) (.string ⟨#[]⟩) (zI zL 0) (zI zL 0) (.bool false) (zI zL 0) (zI zL 0) (zI zL 0) (.slice none 0 0)):=((((R5.out.other NRN 5 none _).other NRN 6 none _).other NRN 7 none _).other NRN 8 none _)
 clear n0 n1 n2 n3 n4 n5 n6 n7 n8 n9 m0 m1 m2 m3 m4 m5 m6 m7 m8 m9 r0 r1 r2 r3 r4 r5 r6 r7 r8 r9 q0 q1 q2 q3 q4 q5 q6 q7 q8 q9 x0 x1 x2 x3 x4 S5 N5 R5 X5
 generalize ((((v5.setCell ⟨v.heap.size+1,5,none⟩ (.bool (uF 2))).setCell ⟨v.heap.size+1,6,none⟩ (zI zL (uM 2))).setCell ⟨v.heap.size+1,7,none⟩ (zI zL (uA 2))).setCell ⟨v.heap.size+1,8,none⟩ (zI zL (uD 2)))=V6 at *
 refine(KC.out _).mono ?_
 rintro _ v7 ⟨rfl,hb⟩
 have S7:=zH (S6.out.bel hb)
 have N7:=zH (N6.out.bel hb)
 have R7:=zH (R6.out.bel hb)
 clear hb S6 N6 R6 KC
 obtain⟨n0,n1,n2,n3,n4,n5,n6,n7,n8,n9,m0,m1,m2,m3,m4,m5,m6,m7,m8,m9⟩:=N7.out
 obtain⟨r0,r1,r2,r3,r4,r5,r6,r7,r8,r9,q0,q1,q2,q3,q4,q5,q6,q7,q8,q9⟩:=R7.out
 go_wp2_with fail
 refine(?_:∀F:World,B10 F w.heap.size (zI zL 1) (zI zL ta) (.string ⟨#[]⟩) (zI zL (M0 tn td).1) (zI zL (M0 tn td).2.1) (.bool (uF 2)) (zI zL (uM 2)) (zI zL (uA 2)) (zI zL (uD 2)) (.slice none 0 0)->Sx w F b p cap qb ts En mb k'->bodyPost _ _ _ _ _ F) _ (((R7.out.other NRN 3 none _).other NRN 4 none _).put _ _ _ _ _ _ _ _ _ _) ?_
 ·intro F hF hS
  obtain⟨y0,y1,y2,y3,y4,y5,y6,y7,y8,y9,-,-,-,-,-,-,-,-,-,-⟩:=hF
  refine bodyPost_ret (v:= .agg #[zI zL 1,zI zL ta,.string ⟨#[]⟩,zI zL (M0 tn td).1,zI zL (M0 tn td).2.1,.bool (uF 2),zI zL (uM 2),zI zL (uA 2),zI zL (uD 2),.slice none 0 0]) zcq rfl (ak.ok (by rw[hq]) ⟨⟨1,ta,⟨#[]⟩,(M0 tn td).1,(M0 tn td).2.1,uF 2,uM 2,uA 2,uD 2,none,0,0⟩,rfl,?_⟩ hS)
  rw[HO.out]
  exact bP F w.heap.size (ag ts En) 1 (ts.length-k) [] ((M0 tn td).1) ((M0 tn td).2.1) 2
 ·exact((((((((((((S7.out.other zac 3 _).other zac 4 _).other (Nat.le_refl _) 0 _).other (Nat.le_refl _) 1 _).other (Nat.le_refl _) 2 _).other (Nat.le_refl _) 3 _).other (Nat.le_refl _) 4 _).other (Nat.le_refl _) 5 _).other (Nat.le_refl _) 6 _).other (Nat.le_refl _) 7 _).other (Nat.le_refl _) 8 _).other (Nat.le_refl _) 9 _)
theorem sZ (w:World)(h:Rd w b p cap qb ts En mb k)(hk:(pk ts En k).k=2)(hu:idx units (pk ts En (k+1)).t=some 2)(hz:(M0 (pk ts En k).n (pk ts En k).d).2.2≠0) :
  Calls Tryz.prog 144 #[.pointer (some ⟨b,0,none⟩)] w fun e w'=>ak w b p cap qb ts En mb (vX w.heap.size (ag ts En)) (.er 3 (ts.length-k) (ts.length-(k+1+1))) e w':=by
 have hf:=dh
 have hk1:=dB h.kl h.tk.max
 have hl:k<ts.length:=jI (En:=En) (by rw[hk];decide)
 have KP:=zH (fun w h=>aC (b:=b) (cap:=cap) (qb:=qb) (En:=En) (mb:=mb) (k:=k) (p:=p) (ts:=ts) w h)
 have KP2:=zH (fun w h=>aC (b:=b) (cap:=cap) (qb:=qb) (En:=En) (mb:=mb) (k:=k+1) (p:=p) (ts:=ts) w h)
 have S0:=zH ((Sx.start h).alloc (.cells mU.toArray 36))
 have R0:=zH (B10.new w (zI zL 0) (zI zL 0) (.string ⟨#[]⟩) (zI zL 0) (zI zL 0) (.bool false) (zI zL 0) (zI zL 0) (zI zL 0) (.slice none 0 0) 36)
 have HO:Hid ((pk ts En k).a=ag ts En (ts.length-k)):=bF h.kl
 have NB:w.heap.size≠b:=zbd
 have KN:=zH (fun w (h:Rd w b p cap qb ts En mb (k+1))=>jq w h)
 rw[jr (En:=En) h.ok,hu] at KN
 have HT : -9223372036854775808<=(pk ts En k).n/\(pk ts En k).n<=9223372036854775807/\-9223372036854775808<=(pk ts En k).d/\(pk ts En k).d<=9223372036854775807:=by rw[jO hl];exact(h.ok _ (List.getElem_mem hl)).2.2.2
 clear h
 generalize pk ts En k=t at *
 obtain⟨tk,ta,tt,tn,td⟩:=t
 simp only at hk hz HT
 subst hk
 generalize pk ts En (k+1)=t2 at *
 obtain⟨uk,ua,ut,un,ud⟩:=t2
 have KU:=zH (fun w=>eH ut w)
 simp only at hu
 rw[hu] at KU
 clear hu
 unfold fI at KP KP2
 unfold mU at S0
 go_enter Tryz.func144,Tryz.ntmps144
 go_wp2_with fail
 refine(KP.out _ S0.out.rd).mono ?_
 rintro _ v ⟨rfl,hb⟩
 have S1:=zH ((S0.out.bel hb).alloc (kK 2 ta tn td (bs tt)))
 have R1:=zH ((R0.out.bel hb).bel ((Below.refl _ _).alloc (Nat.le_refl _) (kK 2 ta tn td (bs tt))))
 have X1:=zH (B5.new v (zI zL 2) (zI zL ta) (.string (bs tt)) (zI zL tn) (zI zL td) 86)
 have NB1:v.heap.size≠b:=zam
 have NB3:v.heap.size+1≠b:=zam
 have NR:w.heap.size<v.heap.size:=zby
 clear hb S0 R0 KP
 unfold kK at S1 R1
 obtain⟨x0,x1,x2,x3,x4,-,-,-,-,-⟩:=X1.out
 obtain⟨-,c1,-,-,f1,-,-,-,-,-,-⟩:=S1.out.rd
 have S2:=zH ((S1.out.next hl).alloc (.cells #[zI zL 1,zI zL ta,.string ⟨#[]⟩,zI zL tn,zI zL td,.bool false,zI zL 0,zI zL 0,zI zL 0,.slice none 0 0] 36))
 have N2:=zH (B10.new ((v.alloc (.cells #[zI zL 2,zI zL ta,.string (bs tt),zI zL tn,zI zL td] 86)).setCell ⟨b,1,none⟩ (zI zL (k+1:Nat))) (zI zL 1) (zI zL ta) (.string ⟨#[]⟩) (zI zL tn) (zI zL td) (.bool false) (zI zL 0) (zI zL 0) (zI zL 0) (.slice none 0 0) 36)
 have R2:=zH ((R1.out.other NB 1 none (zI zL (k+1:Nat))).bel ((Below.refl _ _).alloc (Nat.le_refl _) (.cells #[zI zL 1,zI zL ta,.string ⟨#[]⟩,zI zL tn,zI zL td,.bool false,zI zL 0,zI zL 0,zI zL 0,.slice none 0 0] 36)))
 have X2:=zH ((X1.out.other NB1 1 none (zI zL (k+1:Nat))).bel ((Below.refl _ _).alloc (Nat.le_refl _) (.cells #[zI zL 1,zI zL ta,.string ⟨#[]⟩,zI zL tn,zI zL td,.bool false,zI zL 0,zI zL 0,zI zL 0,.slice none 0 0] 36)))
 rw[show((v.alloc (.cells #[zI zL 2,zI zL ta,.string (bs tt),zI zL tn,zI zL td] 86)).setCell ⟨b,1,none⟩ (zI zL (k+1:Nat))).heap.size=v.heap.size+1 by simp[World.setCell]] at N2
 go_wp2_with fail
 clear x0 x1 x2 x3 x4 c1 f1 S1 R1 X1
 change Calls _ _ _ (((v.alloc (.cells #[zI zL 2,zI zL ta,.string (bs tt),zI zL tn,zI zL td] 86)).setCell ⟨b,1,none⟩ (zI zL (k+1:Nat))).alloc (.cells #[zI zL 1,zI zL ta,.string ⟨#[]⟩,zI zL tn,zI zL td,.bool false,zI zL 0,zI zL 0,zI zL 0,.slice none 0 0] 36)) _
 generalize (((v.alloc (.cells #[zI zL 2,zI zL ta,.string (bs tt),zI zL tn,zI zL td] 86)).setCell ⟨b,1,none⟩ (zI zL (k+1:Nat))).alloc (.cells #[zI zL 1,zI zL ta,.string ⟨#[]⟩,zI zL tn,zI zL td,.bool false,zI zL 0,zI zL 0,zI zL 0,.slice none 0 0] 36))=V at *
 refine(KP2.out _ S2.out.rd).mono ?_
 rintro _ v3 ⟨rfl,hb⟩
 have S3:=zH (S2.out.bel hb)
 have N3:=zH (N2.out.bel hb)
 have R3:=zH (R2.out.bel hb)
 have X3:=zH (X2.out.bel hb)
 clear hb S2 N2 R2 X2 KP2
 go_wp2_with fail
 refine(KU.out _).mono ?_
 rintro _ v4 ⟨rfl,hb⟩
 have KC:=zH (fun w=>xH 2 ta tn td (bs tt) w HT.1 HT.2.1 HT.2.2.1 HT.2.2.2 hz)
 clear hz HT
 have hmu:(uM 2==1)=true:=rfl
 have hB4:=hb.alloc (by exact hb.size) (.cells #[.bool (uF 2),zI zL (uM 2),zI zL (uA 2),zI zL (uD 2)] 33)
 have S4:=zH (S3.out.bel hB4)
 have N4:=zH (N3.out.bel hB4)
 have R4:=zH (R3.out.bel hB4)
 have X4:=zH (X3.out.bel hB4)
 have NRN:w.heap.size≠v.heap.size+1:=zac
 clear hb hB4 S3 N3 R3 X3 KU
 unfold uV
 go_wp2_with fail
 refine(KN.out _ S4.out.rd).mono ?_
 rintro _ v5 ⟨_,k',rfl,rfl,hkp,hrd,hq⟩
 have S5:=zH (S4.out.call hkp hrd)
 have N5:=zH (N4.out.call hkp NB3)
 have R5:=zH (R4.out.call hkp NB)
 have X5:=zH (X4.out.call hkp NB1)
 clear hkp hrd S4 N4 R4 X4 KN
 unfold uV
 obtain⟨n0,n1,n2,n3,n4,n5,n6,n7,n8,n9,m0,m1,m2,m3,m4,m5,m6,m7,m8,m9⟩:=N5.out
 obtain⟨r0,r1,r2,r3,r4,r5,r6,r7,r8,r9,q0,q1,q2,q3,q4,q5,q6,q7,q8,q9⟩:=R5.out
 obtain⟨x0,x1,x2,x3,x4,-,-,-,-,-⟩:=X5.out
 have NXN:v.heap.size≠v.heap.size+1:=zac
 go_wp2_with fail
 have S6:Hid (Sx w ((((v5.setCell ⟨v.heap.size+1,5,none⟩ (.bool (uF 2))).setCell ⟨v.heap.size+1,6,none⟩ (zI zL (uM 2))).setCell ⟨v.heap.size+1,7,none⟩ (zI zL (uA 2))).setCell ⟨v.heap.size+1,8,none⟩ (zI zL (uD 2))) b p cap qb ts En mb k'):=((((S5.out.other zac 5 _).other zac 6 _).other zac 7 _).other zac 8 _)
 refine(KC.out _).mono ?_
 rintro _ v7 ⟨rfl,hb⟩
 have S7:=zH (S6.out.bel hb)
 go_wp2_with fail
 refine aa rfl (ak.er rfl HO.out ?_ S7.out)
 have:=congrArg List.length hq
 simp only[List.length_drop] at this
 omega
end
section
variable {ts:List Tok} {En k:Nat} {M:Int->Int->Int×Int×Int} {ex:List Tok->Out Tree}
theorem ji:idx [gX,iy] []=none:=zah
theorem wD (hk:eQ ts):factor M ex (ts.drop k) =
  if (pk ts En k).k=2 then EW M (pk ts En k) (ts.drop (k+1))
  else if isW sLp (ts.drop k)=true then (ex (ts.drop (k+1))).bind fun n r=>(need sRp r).bind fun _ r=> .ok n r
  else if isW bB (ts.drop k)=true then .ok (.mk 17 (ts.length-k) [] 0 0 1 []) (ts.drop (k+1))
  else match idx [gX,iy] (pk ts En k).t with
   | some o=>(need sLp (ts.drop (k+1))).bind fun _ r1=>(ex r1).bind fun a r2=>(need sCm r2).bind fun _ r3=>(ex r3).bind fun b r4=>(need sRp r4).bind fun _ r5=> .ok (.mk (7+o) (ts.length-k) [] 0 0 1 [a,b]) r5
   | none=>if isA (ts.drop k)=true then .ok (.mk 2 (ts.length-k) (pk ts En k).t 0 0 1 []) (ts.drop (k+1)) else bad (ts.drop k):=by
 rcases Nat.lt_or_ge k ts.length with z|z
 ·have hw:=eZ (En:=En) (k:=k) hk [gX,iy] 0 zah
  have hL:ts.length-k=(ts.drop (k+1)).length+1:=zbn
  have h1:(pk ts En k).k=1->(pk ts En k).t≠sLp:=fun e=>by
   have:=((hk _ (List.getElem_mem z)).2.2.1 (by rw[<-jO (En:=En) z];exact e)).2
   rw[jO z];exact this
  rw[hL]
  rw[gQ (En:=En) z] at hw |-
  generalize pk ts En k=t at *
  generalize ts.drop (k+1)=r at *
  unfold factor
  simp only
  by_cases h2:t.k=2
  ·rw[if_pos h2,if_pos h2];rfl
  rw[if_neg h2,if_neg h2]
  by_cases hA:isA (t::r)=true
  ·rw[if_pos hA]
   have hA':=hA
   unfold isA at hA'
   simp only[Bool.and_eq_true,decide_eq_true_eq,Bool.not_eq_true'] at hA'
   obtain⟨⟨a1,a2⟩,a3⟩:=hA'
   have e1:isW sLp (t::r)=false:=by
    show isT sLp t=false
    unfold isT
    have:(t.t==sLp)=false:=by simpa using h1 a1
    rw[this,Bool.and_false]
   have hres:∀s∈reserved,t.t≠s:=fun s hs e=>by
    rw[e] at a2
    have:reserved.contains s=true:=by simpa using hs
    rw[this] at a2;cases a2
   have e2:isW bB (t::r)=false:=by
    show isT bB t=false
    unfold isT
    have:(t.t==bB)=false:=by simpa using hres bB zah
    rw[this,Bool.and_false]
   have e3:idx [gX,iy] t.t=none:=by
    unfold idx
    have q1:(gX==t.t)=false:=by simpa using Ne.symm (hres gX zah)
    have q2:(iy==t.t)=false:=by simpa using Ne.symm (hres iy zah)
    simp[List.findIdx?_cons,q1,q2]
   rw[e1,e2,e3,if_neg (by simp),if_neg (by simp),if_pos hA]
  ·rw[if_neg hA]
   by_cases hp:isT sLp t=true
   ·have hn:isT bB t=false:=by
     unfold isT at hp |-
     rw[Bool.and_eq_true,beq_iff_eq] at hp
     rw[hp.2]
     have:(sLp==bB)=false:=zah
     rw[this,Bool.and_false]
    rw[hn,if_neg (by simp),if_pos hp,if_pos (show isW sLp (t::r)=true from hp)]
   ·rw[if_neg (show ¬isW sLp (t::r)=true from hp)]
    by_cases ht:isT bB t=true
    ·rw[if_pos ht,if_pos (show isW bB (t::r)=true from ht)]
    ·rw[if_neg ht,if_neg (show ¬isW bB (t::r)=true from ht),if_neg hp]
     unfold which
     rw[hw]
     cases idx [gX,iy] t.t with
     | none=>simp only[Option.map_none];rw[if_neg hA]
     | some o=>rfl
 ·rw[List.drop_eq_nil_of_le z,iI z,List.drop_eq_nil_of_le zac]
  simp only[ji]
  rfl
end
def lv:Nat->Int
 | 0=>1
 | 1=>2
 | 3=>3
 | 4=>4
 | _=>5
theorem zX {l:List (List UInt8)}{x:List UInt8}(h:x ∉ l):idx l x=none:=by
 unfold idx
 rw[List.findIdx?_eq_none_iff]
 intro y hy
 have:y≠x:=fun e=>h (e▸hy)
 simpa using this
theorem tV {x:List UInt8}(h:x ∉ cO.map (·.1)):eO x=none:=by
 unfold eO
 have:cO.find? (fun e=>e.1==x)=none:=by
  rw[List.find?_eq_none]
  intro e he
  have:e.1≠x:=fun q=>h (by rw[<-q];exact List.mem_map_of_mem he)
  simpa using this
 rw[this];rfl
theorem gu:cO.map (·.1)=[kOr,Ct,sEq,sNe,sLt,sLe,sGt,sGe,Ey,EC,EB,EH,gX,iy]:=rfl
theorem pX (x:List UInt8):opAt 6 x=(idx [gX,iy] x).map fun i=>(((7+i:Nat):Int),false):=by
 by_cases h:x∈cO.map (·.1)
 ·rw[gu] at h
  simp only[List.mem_cons,List.not_mem_nil,or_false] at h
  rcases h with rfl|rfl|rfl|rfl|rfl|rfl|rfl|rfl|rfl|rfl|rfl|rfl|rfl|rfl<;>decide
 ·have h2:x ∉ [gX,iy]:=fun e=>h (by rw[gu];simp only[List.mem_cons,List.not_mem_nil,or_false] at e |-;rcases e with rfl|rfl<;>simp)
  unfold opAt
  rw[tV h,zX h2];rfl
theorem pO (l:Nat)(hl:l<6/\l≠2)(x:List UInt8):opAt (lv l) x=(idx (signs l) x).map fun i=>((ops l).getD i 0,decide (l=3)&&decide (3<i)):=by
 obtain⟨h6,h2⟩:=hl
 have hl:l=0\/l=1\/l=3\/l=4\/l=5:=zac
 by_cases h:x∈cO.map (·.1)
 ·rw[gu] at h
  simp only[List.mem_cons,List.not_mem_nil,or_false] at h
  rcases hl with rfl|rfl|rfl|rfl|rfl<;>rcases h with rfl|rfl|rfl|rfl|rfl|rfl|rfl|rfl|rfl|rfl|rfl|rfl|rfl|rfl<;>decide
 ·have h2:x ∉ signs l:=fun e=>h (by
   rw[gu]
   rcases hl with rfl|rfl|rfl|rfl|rfl<;>simp only[signs,List.mem_cons,List.not_mem_nil,or_false] at e |-
   ·simp[e]
   ·simp[e]
   ·rcases e with rfl|rfl|rfl|rfl|rfl|rfl<;>simp
   ·rcases e with rfl|rfl<;>simp
   ·rcases e with rfl|rfl<;>simp)
  unfold opAt
  rw[tV h,zX h2];rfl
end Go.Proofs.YtnjfolljbfkojaaGreatDoor
