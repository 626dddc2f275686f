import Derived.Test.YtnjfolljbfkojaaGreatDoorMAS
import Derived.Test.YtnjfolljbfkojaaGreatDoorMAN
import Derived.Test.YtnjfolljbfkojaaGreatDoorMAQ
set_option maxRecDepth 100000
set_option maxHeartbeats 20000000
namespace Go.Proofs.YtnjfolljbfkojaaGreatDoor
open Go.Value renaming int→zI
open Go.IntKind renaming i64→zL
open Go.Lib renaming hid→zH
open Go.RowKit Lx Pa
theorem og (ts:List Tok)(p:Option Addr)(b off cap n k En:Nat)(O:Int)(w:World)(hS:SlT w p b off n ts)(hkt:k<ts.length)(hkt2:k+1<ts.length)(h1:isN (ts.drop k)=true)(u:Nat)(hu:u<5)(hu2:u≠2)(h2:which units (ts.drop (k+1))=some u) :
  Calls Tryz.prog 71 #[.agg #[.slice p n cap,zI zL k,zI zL En,zI zL 0,zI zL O]] w fun e w'=>bO w ts p n cap En (k+2:Nat) 0 O (some (Tree.mk 1 (n-k) [] ts[k].n ts[k].d u [])) e w':=by
 have hmx:=hS.max
 have hl:=hS.ln
 have hk1:IntKind.i64.wrap ((k:Int)+1)=((k+1:Nat):Int):=zal
 have hk2:IntKind.i64.wrap ((k:Int)+1+1)=((k+2:Nat):Int):=zcd
 have hk3:IntKind.i64.wrap (k:Int)=(k:Int):=IntWalk.i64_in _ zac
 have hz1:(k:Int)<(n:Int):=zac
 have hp:=hS.ptr zac
 have KO:=zH (fun w hS=>aj ts p b off cap n k En 0 O w hS zac)
 have KN:=zH (fun w hS=>bR ts p b off cap n k En O w hS)
 rw[h1] at KN
 have KW:Hid (∀w p2 b2 cap2,SlT w p b off n ts->SlS w p2 b2 0 5 units->Calls Tryz.prog 42 #[.agg #[.slice p n cap,zI zL ((k:Int)+1),zI zL En,zI zL 0,zI zL O],.slice p2 5 cap2] w fun e w'=>e = .returned (zI zL (u:Nat))/\RowKit.Below w.heap.size w w'):=fun w p2 b2 cap2 hS hL=>by
  have h:=bM units ts p p2 b off cap n (k+1) b2 0 cap2 5 En O w hS hL
  rw[h2] at h
  exact h
 have KU:=zH (fun w=>iq u w zac)
 have hu3:((u:Int)==2)=false:=zai
 have hu4:¬(u:Int)<0:=zac
 have HC:=zH (fun v (h:RowKit.Below w.heap.size w v)=>(hS.bel h).cells k hkt)
 have HS:=zH hS
 have HP:Hid (∀w',RowKit.Below w.heap.size w w'->bO w ts p n cap En ((k:Int)+1+1) 0 O (some (Tree.mk 1 (n-k) [] ts[k].n ts[k].d u [])) (.returned (.tuple #[.agg #[zI zL 1,zI zL (ag ts En (n-k)),.string ⟨#[]⟩,zI zL ts[k].n,zI zL ts[k].d,.bool (uF u),zI zL (uM u),zI zL (uA u),zI zL (uD u),.slice none 0 0],.agg #[.slice p n cap,zI zL ((k:Int)+1+1),zI zL En,zI zL 0,zI zL O]])) w'):=fun w' hb =>
  ⟨⟨1,ag ts En (n-k),⟨#[]⟩,ts[k].n,ts[k].d,uF u,uM u,uA u,uD u,none,0,0⟩,rfl,fun u hu=>by cases hu;exact bP w' w.heap.size (ag ts En) 1 (n-k) [] ts[k].n ts[k].d u,hb⟩
 rw[show((k+2:Nat):Int)=((k:Int)+1+1) by omega]
 rw[show((k+2:Nat):Int)=((k:Int)+1+1) by omega] at hk2
 generalize (some (Tree.mk 1 (n-k) [] ts[k].n ts[k].d u []))=tt at *
 generalize ag ts En (n-k)=at0 at *
 generalize ts[k]=t at *
 obtain⟨tk,ta,tx,tn,td⟩:=t
 clear h1 h2 hS
 subst hp
 obtain⟨W3,hW3⟩:∃W3,W3=((w.alloc (.cells #[.slice (some ⟨b,off,none⟩) n cap,zI zL k,zI zL En,zI zL 0,zI zL O] 62)).alloc (.cells #[zI zL 0,zI zL 0,.string ⟨#[]⟩,zI zL 0,zI zL 0,.bool false,zI zL 0,zI zL 0,zI zL 0,.slice none 0 0] 36)).alloc (.cells #[.slice none 0 0,zI zL 0,zI zL 0,zI zL 0,zI zL 0] 62):=⟨_,rfl⟩
 have F:=zH (Fr.new w (some ⟨b,off,none⟩) n cap k En 0 O 62 36)
 rw[<-hW3] at F
 go_enter Tryz.func71,Tryz.ntmps71
 go_wp2_with fail
 rw[<-hW3]
 clear hW3
 refine(KO.out _ (HS.out.bel F.out.B)).mono ?_
 rintro _ v1 ⟨rfl,hb⟩
 replace F:=zH (F.out.bel hb)
 clear hb
 obtain⟨c0,c1,c2,c3,c4,f0,f1,f2,f3,f4⟩:=F.out.A
 go_wp2_with fail
 refine(KN.out _ (HS.out.bel F.out.B)).mono ?_
 rintro _ v2 ⟨rfl,hb⟩
 replace F:=zH (F.out.bel hb)
 clear c0 c1 c2 c3 c4 f0 f1 f2 f3 f4
 clear hb
 obtain⟨c0,c1,c2,c3,c4,f0,f1,f2,f3,f4⟩:=F.out.A
 obtain⟨a0,a1,a2,a3,a4⟩:=HC.out v2 F.out.B
 have hsz:w.heap.size<v2.heap.size:=World.block_lt_of_cell? _ _ c0
 have hv1:w.heap.size+2<v2.heap.size:=World.block_lt_of_cell? _ _ F.out.R.c0
 go_wp2_with fail
 have ha:=(Below.refl (v2.setCell ⟨w.heap.size,1,none⟩ (zI zL ((k:Int)+1))).heap.size (v2.setCell ⟨w.heap.size,1,none⟩ (zI zL ((k:Int)+1)))).alloc (Nat.le_refl _) (.cells #[zI zL 1,zI zL at0,.string ⟨#[]⟩,zI zL tn,zI zL td,.bool false,zI zL 0,zI zL 0,zI zL 0,.slice none 0 0] 36)
 have X:=zH (B10.new (v2.setCell ⟨w.heap.size,1,none⟩ (zI zL ((k:Int)+1))) (zI zL 1) (zI zL at0) (.string ⟨#[]⟩) (zI zL tn) (zI zL td) (.bool false) (zI zL 0) (zI zL 0) (zI zL 0) (.slice none 0 0) 36)
 rw[show(v2.setCell ⟨w.heap.size,1,none⟩ (zI zL ((k:Int)+1))).heap.size=v2.heap.size by simp[World.setCell]] at X
 replace F:=zH ((F.out.inc ((k:Int)+1)).bel ha)
 clear ha c0 c1 c2 c3 c4 f0 f1 f2 f3 f4 a0 a1 a2 a3 a4
 generalize (v2.setCell ⟨w.heap.size,1,none⟩ (zI zL ((k:Int)+1))).alloc (.cells #[zI zL 1,zI zL at0,.string ⟨#[]⟩,zI zL tn,zI zL td,.bool false,zI zL 0,zI zL 0,zI zL 0,.slice none 0 0] 36)=V at *
 generalize v2.heap.size=bx at *
 obtain⟨c0,c1,c2,c3,c4,-,-,-,-,-⟩:=F.out.A
 have hS:(V.drew.cell? ⟨w.heap.size,0,none⟩=some (.slice (some ⟨b,off,none⟩) n cap)/\V.drew.cell? ⟨w.heap.size,1,none⟩=some (zI zL ((k:Int)+1))/\V.drew.cell? ⟨w.heap.size,2,none⟩=some (zI zL En)/\V.drew.cell? ⟨w.heap.size,3,none⟩=some (zI zL 0)/\V.drew.cell? ⟨w.heap.size,4,none⟩=some (zI zL O)):=⟨c0,c1,c2,c3,c4⟩
 refine wp_region_held (S:=fun w':World=>(w'.cell? ⟨w.heap.size,0,none⟩=some (.slice (some ⟨b,off,none⟩) n cap)/\w'.cell? ⟨w.heap.size,1,none⟩=some (zI zL ((k:Int)+1))/\w'.cell? ⟨w.heap.size,2,none⟩=some (zI zL En)/\w'.cell? ⟨w.heap.size,3,none⟩=some (zI zL 0)/\w'.cell? ⟨w.heap.size,4,none⟩=some (zI zL O))) mixed ?_
 change wpAnyH _ _ _ _ _ _ _ _ V.drew
 refine tk0 (v:=?_) zab zab zab (fun _ _ _ h=>h) (Or.inl ⟨by rfl,?_⟩) hS ?_
 rotate_left
 ·(intro w hSw;(try dsimp only at hSw);go_simp;try with_reducible rfl)
 simp only[Act.put,zA,zB,zC]
 refine wpAnyH_ready (rs:=[1]) zab (by simp) (st1 (fun K hK=>?_) AllReadyH.nil)
 go_simp
 refine(dY _).mono ?_
 rintro _ v5 ⟨q5,b5,cap5,rfl,hs5,hb5⟩
 go_wp2_with fail
 have hb5':=(Below.refl V.heap.size V).drew.trans hb5
 replace F:=zH (F.out.bel hb5')
 replace X:=zH (X.out.bel hb5')
 clear hb5 c0 c1 c2 c3 c4
 obtain⟨c0,c1,c2,c3,c4,-,-,-,-,-⟩:=F.out.A
 refine hK.out _ _ ?_ (fun hHeld=>?_)
 ·exact⟨c0,c1,c2,c3,c4⟩
 clear hK K
 try simp only[Act.put,zA,zB,zC]
 refine wpAnyH_ready (rs:=[2]) zab (by simp) (st2 (fun K hK=>?_) AllReadyH.nil)
 go_simp
 refine(KW.out _ _ _ _ (HS.out.bel F.out.B) hs5).mono ?_
 rintro _ v6 ⟨rfl,hb6⟩
 go_wp2_with fail
 replace F:=zH (F.out.bel hb6)
 replace X:=zH (X.out.bel hb6)
 clear hb5' hs5 c0 c1 c2 c3 c4
 obtain⟨c0,c1,c2,c3,c4,-,-,-,-,-⟩:=F.out.A
 refine hK.out _ _ ?_ (fun hHeld=>?_)
 ·exact⟨c0,c1,c2,c3,c4⟩
 clear hK K
 try simp only[Act.put,zA,zB,zC]
 refine wpAnyH_ready (rs:=[3]) zab (by simp) (st3 (fun K hK=>?_) AllReadyH.nil)
 go_simp
 refine hK.out _ _ ?_ (fun hHeld=>?_)
 ·exact⟨c0,c1,c2,c3,c4⟩
 clear hK K
 try simp only[Act.put,zA,zB,zC]
 refine wpAnyH_done zab ?_ _
 clear hS
 obtain⟨-,-,-,-,-,f0,f1,f2,f3,f4⟩:=F.out.A
 go_wp2_with fail
 replace F:=zH (F.out.inc ((k:Int)+1+1))
 replace X:=zH (X.out.other (r:=w.heap.size) zac 1 none (zI zL ((k:Int)+1+1)))
 clear c0 c1 c2 c3 c4 f0 f1 f2 f3 f4
 generalize v6.setCell ⟨w.heap.size,1,none⟩ (zI zL ((k:Int)+1+1))=V6 at *
 refine(KU.out _).mono ?_
 rintro _ v7 ⟨rfl,hb7⟩
 replace F:=zH (F.out.bel hb7)
 replace X:=zH (X.out.bel hb7)
 clear hb7
 obtain⟨x0,x1,x2,x3,x4,x5,x6,x7,x8,x9,y0,y1,y2,y3,y4,y5,y6,y7,y8,y9⟩:=X.out
 obtain⟨c0,c1,c2,c3,c4,f0,f1,f2,f3,f4⟩:=F.out.A
 go_wp2_with fail
 have hk:=(((Kept.refl bx v7).setCell 5 none (.bool (uF u))).setCell 6 none (zI zL (uM u))).setCell 7 none (zI zL (uA u)) |>.setCell 8 none (zI zL (uD u))
 replace F:=zH (F.out.kept hk hv1)
 replace X:=zH (X.out.unit (.bool (uF u)) (zI zL (uM u)) (zI zL (uA u)) (zI zL (uD u)))
 clear hk x0 x1 x2 x3 x4 x5 x6 x7 x8 x9 y0 y1 y2 y3 y4 y5 y6 y7 y8 y9 c0 c1 c2 c3 c4 f0 f1 f2 f3 f4
 generalize (((v7.setCell ⟨bx,5,none⟩ (.bool (uF u))).setCell ⟨bx,6,none⟩ (zI zL (uM u))).setCell ⟨bx,7,none⟩ (zI zL (uA u))).setCell ⟨bx,8,none⟩ (zI zL (uD u))=V7 at *
 obtain⟨x0,x1,x2,x3,x4,x5,x6,x7,x8,x9,-,-,-,-,-,-,-,-,-,-⟩:=X.out
 obtain⟨c0,c1,c2,c3,c4,-,-,-,-,-⟩:=F.out.A
 obtain⟨n0,n1,n2,n3,n4,n5,n6,n7,n8,n9,m0,m1,m2,m3,m4,m5,m6,m7,m8,m9⟩:=F.out.N
 obtain⟨e0,e1,e2,e3,e4,g0,g1,g2,g3,g4⟩:=F.out.R
 have BV:=zH F.out.B
 have hS:(V7.drew.cell? ⟨bx,0,none⟩=some (zI zL 1)/\V7.drew.cell? ⟨bx,1,none⟩=some (zI zL at0)/\V7.drew.cell? ⟨bx,2,none⟩=some (.string ⟨#[]⟩)/\V7.drew.cell? ⟨bx,3,none⟩=some (zI zL tn)/\V7.drew.cell? ⟨bx,4,none⟩=some (zI zL td)/\V7.drew.cell? ⟨bx,5,none⟩=some (.bool (uF u))/\V7.drew.cell? ⟨bx,6,none⟩=some (zI zL (uM u))/\V7.drew.cell? ⟨bx,7,none⟩=some (zI zL (uA u))/\V7.drew.cell? ⟨bx,8,none⟩=some (zI zL (uD u))/\V7.drew.cell? ⟨bx,9,none⟩=some (.slice none 0 0))/\(V7.drew.cell? ⟨w.heap.size,0,none⟩=some (.slice (some ⟨b,off,none⟩) n cap)/\V7.drew.cell? ⟨w.heap.size,1,none⟩=some (zI zL ((k:Int)+1+1))/\V7.drew.cell? ⟨w.heap.size,2,none⟩=some (zI zL En)/\V7.drew.cell? ⟨w.heap.size,3,none⟩=some (zI zL 0)/\V7.drew.cell? ⟨w.heap.size,4,none⟩=some (zI zL O)):=⟨⟨x0,x1,x2,x3,x4,x5,x6,x7,x8,x9⟩,⟨c0,c1,c2,c3,c4⟩⟩
 refine wp_region_held (S:=fun w':World=>(w'.cell? ⟨bx,0,none⟩=some (zI zL 1)/\w'.cell? ⟨bx,1,none⟩=some (zI zL at0)/\w'.cell? ⟨bx,2,none⟩=some (.string ⟨#[]⟩)/\w'.cell? ⟨bx,3,none⟩=some (zI zL tn)/\w'.cell? ⟨bx,4,none⟩=some (zI zL td)/\w'.cell? ⟨bx,5,none⟩=some (.bool (uF u))/\w'.cell? ⟨bx,6,none⟩=some (zI zL (uM u))/\w'.cell? ⟨bx,7,none⟩=some (zI zL (uA u))/\w'.cell? ⟨bx,8,none⟩=some (zI zL (uD u))/\w'.cell? ⟨bx,9,none⟩=some (.slice none 0 0))/\(w'.cell? ⟨w.heap.size,0,none⟩=some (.slice (some ⟨b,off,none⟩) n cap)/\w'.cell? ⟨w.heap.size,1,none⟩=some (zI zL ((k:Int)+1+1))/\w'.cell? ⟨w.heap.size,2,none⟩=some (zI zL En)/\w'.cell? ⟨w.heap.size,3,none⟩=some (zI zL 0)/\w'.cell? ⟨w.heap.size,4,none⟩=some (zI zL O))) mixed ?_
 change wpAnyH _ _ _ _ _ _ _ _ V7.drew
 refine tk0 (v:=?_) zab zab zab (fun _ _ _ h=>h) (Or.inl ⟨by rfl,?_⟩) hS ?_
 rotate_left
 ·(intro w hSw;(try dsimp only at hSw);go_simp;try with_reducible rfl)
 simp only[Act.put,zA,zB,zC]
 refine tk1 (v:=?_) zab zab zab (fun _ _ _ h=>h) (Or.inl ⟨by rfl,?_⟩) hS ?_
 rotate_left
 ·(intro w hSw;(try dsimp only at hSw);go_simp;try with_reducible rfl)
 simp only[Act.put,zA,zB,zC]
 refine wpAnyH_ready (rs:=[2]) zab (by simp) (st2 (fun K hK=>?_) AllReadyH.nil)
 go_simp
 refine hK.out _ _ ?_ (fun hHeld=>?_)
 ·exact Cw
 clear hK K
 try simp only[Act.put,zA,zB,zC]
 refine wpAnyH_ready (rs:=[3]) zab (by simp) (st3 (fun K hK=>?_) AllReadyH.nil)
 go_simp
 refine hK.out _ _ ?_ (fun hHeld=>?_)
 ·exact Cw
 clear hK K
 try simp only[Act.put,zA,zB,zC]
 refine wpAnyH_done zab ?_ _
 go_wp2_with fail
 exact bodyPost_ret (v:= .tuple #[.agg #[zI zL 1,zI zL at0,.string ⟨#[]⟩,zI zL tn,zI zL td,.bool (uF u),zI zL (uM u),zI zL (uA u),zI zL (uD u),.slice none 0 0],.agg #[.slice (some ⟨b,off,none⟩) n cap,zI zL ((k:Int)+1+1),zI zL En,zI zL 0,zI zL O]]) zap rfl (HP.out _ zae)
theorem mI (ts:List Tok)(p:Option Addr)(b off cap n k En:Nat)(O:Int)(w:World)(hS:SlT w p b off n ts)(hkt:k<ts.length)(hkt2:k+1<ts.length)(h1:isN (ts.drop k)=true)(n0 : -9223372036854775808<=ts[k].n)(n1:ts[k].n<=9223372036854775807)(d0 : -9223372036854775808<=ts[k].d)(d1:ts[k].d<=9223372036854775807)(h2:which units (ts.drop (k+1))=some 2)(hz:(M0 ts[k].n ts[k].d).2.2=0) :
  Calls Tryz.prog 71 #[.agg #[.slice p n cap,zI zL k,zI zL En,zI zL 0,zI zL O]] w fun e w'=>bO w ts p n cap En (k+2:Nat) 0 O (some (Tree.mk 1 (n-k) [] (M0 ts[k].n ts[k].d).1 (M0 ts[k].n ts[k].d).2.1 2 [])) e w':=by
 have hmx:=hS.max
 have hl:=hS.ln
 have hk1:IntKind.i64.wrap ((k:Int)+1)=((k+1:Nat):Int):=zal
 have hk2:IntKind.i64.wrap ((k:Int)+1+1)=((k+2:Nat):Int):=zcd
 have hk3:IntKind.i64.wrap (k:Int)=(k:Int):=IntWalk.i64_in _ zac
 have hz1:(k:Int)<(n:Int):=zac
 have hp:=hS.ptr zac
 have KO:=zH (fun w hS=>aj ts p b off cap n k En 0 O w hS zac)
 have KN:=zH (fun w hS=>bR ts p b off cap n k En O w hS)
 rw[h1] at KN
 have KW:Hid (∀w p2 b2 cap2,SlT w p b off n ts->SlS w p2 b2 0 5 units->Calls Tryz.prog 42 #[.agg #[.slice p n cap,zI zL ((k:Int)+1),zI zL En,zI zL 0,zI zL O],.slice p2 5 cap2] w fun e w'=>e = .returned (zI zL (2:Nat))/\RowKit.Below w.heap.size w w'):=fun w p2 b2 cap2 hS hL=>by
  have h:=bM units ts p p2 b off cap n (k+1) b2 0 cap2 5 En O w hS hL
  rw[h2] at h
  exact h
 have KU:=zH (fun w=>iq 2 w zac)
 have KM:=zH (fun w=>qm ts[k].n ts[k].d 100 1 w n0 n1 d0 d1 zah zah zah zah)
 rw[show op2 ts[k].n ts[k].d 100 1 (ts[k].n*100) (ts[k].d*1)=M0 ts[k].n ts[k].d from rfl] at KM
 have HC:=zH (fun v (h:RowKit.Below w.heap.size w v)=>(hS.bel h).cells k hkt)
 have HS:=zH hS
 have HP:Hid (∀w',RowKit.Below w.heap.size w w'->bO w ts p n cap En ((k:Int)+1+1) 0 O (some (Tree.mk 1 (n-k) [] (M0 ts[k].n ts[k].d).1 (M0 ts[k].n ts[k].d).2.1 2 [])) (.returned (.tuple #[.agg #[zI zL 1,zI zL (ag ts En (n-k)),.string ⟨#[]⟩,zI zL (M0 ts[k].n ts[k].d).1,zI zL (M0 ts[k].n ts[k].d).2.1,.bool (uF 2),zI zL (uM 2),zI zL (uA 2),zI zL (uD 2),.slice none 0 0],.agg #[.slice p n cap,zI zL ((k:Int)+1+1),zI zL En,zI zL 0,zI zL O]])) w'):=fun w' hb =>
  ⟨⟨1,ag ts En (n-k),⟨#[]⟩,(M0 ts[k].n ts[k].d).1,(M0 ts[k].n ts[k].d).2.1,uF 2,uM 2,uA 2,uD 2,none,0,0⟩,rfl,fun u hu=>by cases hu;exact bP w' w.heap.size (ag ts En) 1 (n-k) [] (M0 ts[k].n ts[k].d).1 (M0 ts[k].n ts[k].d).2.1 2,hb⟩
 rw[show((k+2:Nat):Int)=((k:Int)+1+1) by omega]
 rw[show((k+2:Nat):Int)=((k:Int)+1+1) by omega] at hk2
 obtain⟨⟨mx,my,me⟩,hM⟩:∃q:Int×Int×Int,q=M0 ts[k].n ts[k].d:=⟨_,rfl⟩
 rw[<-hM] at KM HP hz |-
 clear hM
 generalize (some (Tree.mk 1 (n-k) [] (mx,my,me).1 (mx,my,me).2.1 2 []))=tt at *
 generalize ag ts En (n-k)=at0 at *
 generalize ts[k]=t at *
 obtain⟨tk,ta,tx,tn,td⟩:=t
 simp only at KM HP hz
 clear h1 h2 hS
 subst hp
 obtain⟨W3,hW3⟩:∃W3,W3=((w.alloc (.cells #[.slice (some ⟨b,off,none⟩) n cap,zI zL k,zI zL En,zI zL 0,zI zL O] 62)).alloc (.cells #[zI zL 0,zI zL 0,.string ⟨#[]⟩,zI zL 0,zI zL 0,.bool false,zI zL 0,zI zL 0,zI zL 0,.slice none 0 0] 36)).alloc (.cells #[.slice none 0 0,zI zL 0,zI zL 0,zI zL 0,zI zL 0] 62):=⟨_,rfl⟩
 have F:=zH (Fr.new w (some ⟨b,off,none⟩) n cap k En 0 O 62 36)
 rw[<-hW3] at F
 go_enter Tryz.func71,Tryz.ntmps71
 go_wp2_with fail
 rw[<-hW3]
 clear hW3
 have hme:(me==0)=true:=by simpa using hz
 have hme2:(me != 0)=false:=by simpa using hz
 clear hz
 refine(KO.out _ (HS.out.bel F.out.B)).mono ?_
 rintro _ v1 ⟨rfl,hb⟩
 replace F:=zH (F.out.bel hb)
 clear hb
 obtain⟨c0,c1,c2,c3,c4,f0,f1,f2,f3,f4⟩:=F.out.A
 go_wp2_with fail
 refine(KN.out _ (HS.out.bel F.out.B)).mono ?_
 rintro _ v2 ⟨rfl,hb⟩
 replace F:=zH (F.out.bel hb)
 clear c0 c1 c2 c3 c4 f0 f1 f2 f3 f4
 clear hb
 obtain⟨c0,c1,c2,c3,c4,f0,f1,f2,f3,f4⟩:=F.out.A
 obtain⟨a0,a1,a2,a3,a4⟩:=HC.out v2 F.out.B
 have hsz:w.heap.size<v2.heap.size:=World.block_lt_of_cell? _ _ c0
 have hv1:w.heap.size+2<v2.heap.size:=World.block_lt_of_cell? _ _ F.out.R.c0
 go_wp2_with fail
 have ha:=(Below.refl (v2.setCell ⟨w.heap.size,1,none⟩ (zI zL ((k:Int)+1))).heap.size (v2.setCell ⟨w.heap.size,1,none⟩ (zI zL ((k:Int)+1)))).alloc (Nat.le_refl _) (.cells #[zI zL 1,zI zL at0,.string ⟨#[]⟩,zI zL tn,zI zL td,.bool false,zI zL 0,zI zL 0,zI zL 0,.slice none 0 0] 36)
 have X:=zH (B10.new (v2.setCell ⟨w.heap.size,1,none⟩ (zI zL ((k:Int)+1))) (zI zL 1) (zI zL at0) (.string ⟨#[]⟩) (zI zL tn) (zI zL td) (.bool false) (zI zL 0) (zI zL 0) (zI zL 0) (.slice none 0 0) 36)
 rw[show(v2.setCell ⟨w.heap.size,1,none⟩ (zI zL ((k:Int)+1))).heap.size=v2.heap.size by simp[World.setCell]] at X
 replace F:=zH ((F.out.inc ((k:Int)+1)).bel ha)
 clear ha c0 c1 c2 c3 c4 f0 f1 f2 f3 f4 a0 a1 a2 a3 a4
 generalize (v2.setCell ⟨w.heap.size,1,none⟩ (zI zL ((k:Int)+1))).alloc (.cells #[zI zL 1,zI zL at0,.string ⟨#[]⟩,zI zL tn,zI zL td,.bool false,zI zL 0,zI zL 0,zI zL 0,.slice none 0 0] 36)=V at *
 generalize v2.heap.size=bx at *
 obtain⟨c0,c1,c2,c3,c4,-,-,-,-,-⟩:=F.out.A
 have hS:(V.drew.cell? ⟨w.heap.size,0,none⟩=some (.slice (some ⟨b,off,none⟩) n cap)/\V.drew.cell? ⟨w.heap.size,1,none⟩=some (zI zL ((k:Int)+1))/\V.drew.cell? ⟨w.heap.size,2,none⟩=some (zI zL En)/\V.drew.cell? ⟨w.heap.size,3,none⟩=some (zI zL 0)/\V.drew.cell? ⟨w.heap.size,4,none⟩=some (zI zL O)):=⟨c0,c1,c2,c3,c4⟩
 refine wp_region_held (S:=fun w':World=>(w'.cell? ⟨w.heap.size,0,none⟩=some (.slice (some ⟨b,off,none⟩) n cap)/\w'.cell? ⟨w.heap.size,1,none⟩=some (zI zL ((k:Int)+1))/\w'.cell? ⟨w.heap.size,2,none⟩=some (zI zL En)/\w'.cell? ⟨w.heap.size,3,none⟩=some (zI zL 0)/\w'.cell? ⟨w.heap.size,4,none⟩=some (zI zL O))) mixed ?_
 change wpAnyH _ _ _ _ _ _ _ _ V.drew
 refine tk0 (v:=?_) zab zab zab (fun _ _ _ h=>h) (Or.inl ⟨by rfl,?_⟩) hS ?_
 rotate_left
 ·(intro w hSw;(try dsimp only at hSw);go_simp;try with_reducible rfl)
 simp only[Act.put,zA,zB,zC]
 refine wpAnyH_ready (rs:=[1]) zab (by simp) (st1 (fun K hK=>?_) AllReadyH.nil)
 go_simp
 refine(dY _).mono ?_
 rintro _ v5 ⟨q5,b5,cap5,rfl,hs5,hb5⟩
 go_wp2_with fail
 have hb5':=(Below.refl V.heap.size V).drew.trans hb5
 replace F:=zH (F.out.bel hb5')
 replace X:=zH (X.out.bel hb5')
 clear hb5 c0 c1 c2 c3 c4
 obtain⟨c0,c1,c2,c3,c4,-,-,-,-,-⟩:=F.out.A
 refine hK.out _ _ ?_ (fun hHeld=>?_)
 ·exact⟨c0,c1,c2,c3,c4⟩
 clear hK K
 try simp only[Act.put,zA,zB,zC]
 refine wpAnyH_ready (rs:=[2]) zab (by simp) (st2 (fun K hK=>?_) AllReadyH.nil)
 go_simp
 refine(KW.out _ _ _ _ (HS.out.bel F.out.B) hs5).mono ?_
 rintro _ v6 ⟨rfl,hb6⟩
 go_wp2_with fail
 replace F:=zH (F.out.bel hb6)
 replace X:=zH (X.out.bel hb6)
 clear hb5' hs5 c0 c1 c2 c3 c4
 obtain⟨c0,c1,c2,c3,c4,-,-,-,-,-⟩:=F.out.A
 refine hK.out _ _ ?_ (fun hHeld=>?_)
 ·exact⟨c0,c1,c2,c3,c4⟩
 clear hK K
 try simp only[Act.put,zA,zB,zC]
 refine wpAnyH_ready (rs:=[3]) zab (by simp) (st3 (fun K hK=>?_) AllReadyH.nil)
 go_simp
 refine hK.out _ _ ?_ (fun hHeld=>?_)
 ·exact⟨c0,c1,c2,c3,c4⟩
 clear hK K
 try simp only[Act.put,zA,zB,zC]
 refine wpAnyH_done zab ?_ _
 clear hS
 obtain⟨-,-,-,-,-,f0,f1,f2,f3,f4⟩:=F.out.A
 go_wp2_with fail
 replace F:=zH (F.out.inc ((k:Int)+1+1))
 replace X:=zH (X.out.other (r:=w.heap.size) zac 1 none (zI zL ((k:Int)+1+1)))
 clear c0 c1 c2 c3 c4 f0 f1 f2 f3 f4
 generalize v6.setCell ⟨w.heap.size,1,none⟩ (zI zL ((k:Int)+1+1))=V6 at *
 refine(KU.out _).mono ?_
 rintro _ v7 ⟨rfl,hb7⟩
 replace F:=zH (F.out.bel hb7)
 replace X:=zH (X.out.bel hb7)
 clear hb7
 obtain⟨x0,x1,x2,x3,x4,x5,x6,x7,x8,x9,y0,y1,y2,y3,y4,y5,y6,y7,y8,y9⟩:=X.out
 obtain⟨c0,c1,c2,c3,c4,f0,f1,f2,f3,f4⟩:=F.out.A
 go_wp2_with fail
 have hk:=(((Kept.refl bx v7).setCell 5 none (.bool (uF 2))).setCell 6 none (zI zL (uM 2))).setCell 7 none (zI zL (uA 2)) |>.setCell 8 none (zI zL (uD 2))
 replace F:=zH (F.out.kept hk hv1)
 replace X:=zH (X.out.unit (.bool (uF 2)) (zI zL (uM 2)) (zI zL (uA 2)) (zI zL (uD 2)))
 clear hk x0 x1 x2 x3 x4 x5 x6 x7 x8 x9 y0 y1 y2 y3 y4 y5 y6 y7 y8 y9 c0 c1 c2 c3 c4 f0 f1 f2 f3 f4
 generalize (((v7.setCell ⟨bx,5,none⟩ (.bool (uF 2))).setCell ⟨bx,6,none⟩ (zI zL (uM 2))).setCell ⟨bx,7,none⟩ (zI zL (uA 2))).setCell ⟨bx,8,none⟩ (zI zL (uD 2))=V7 at *
 refine(KM.out _).mono ?_
 rintro _ v8 ⟨rfl,hb8⟩
 replace F:=zH (F.out.bel hb8)
 replace X:=zH (X.out.bel hb8)
 clear hb8
 obtain⟨x0,x1,x2,x3,x4,x5,x6,x7,x8,x9,y0,y1,y2,y3,y4,y5,y6,y7,y8,y9⟩:=X.out
 obtain⟨c0,c1,c2,c3,c4,f0,f1,f2,f3,f4⟩:=F.out.A
 have hbx:=World.block_lt_of_cell? _ _ x0
 have hw8:=World.block_lt_of_cell? _ _ c0
 go_wp2_with fail
 have hk:=((Kept.refl bx v8).setCell 3 none (zI zL mx)).setCell 4 none (zI zL my)
 replace F:=zH (F.out.kept hk hv1)
 replace X:=zH (X.out.num (zI zL mx) (zI zL my))
 clear hk x0 x1 x2 x3 x4 x5 x6 x7 x8 x9 y0 y1 y2 y3 y4 y5 y6 y7 y8 y9 c0 c1 c2 c3 c4 f0 f1 f2 f3 f4 hbx hw8
 have ha:=(Below.refl ((v8.setCell ⟨bx,3,none⟩ (zI zL mx)).setCell ⟨bx,4,none⟩ (zI zL my)).heap.size ((v8.setCell ⟨bx,3,none⟩ (zI zL mx)).setCell ⟨bx,4,none⟩ (zI zL my))).alloc (Nat.le_refl _) (.cells #[zI zL mx,zI zL my] 31)
 replace F:=zH (F.out.bel ha)
 replace X:=zH (X.out.bel ha)
 clear ha
 generalize ((v8.setCell ⟨bx,3,none⟩ (zI zL mx)).setCell ⟨bx,4,none⟩ (zI zL my)).alloc (.cells #[zI zL mx,zI zL my] 31)=V8 at *
 obtain⟨x0,x1,x2,x3,x4,x5,x6,x7,x8,x9,-,-,-,-,-,-,-,-,-,-⟩:=X.out
 obtain⟨c0,c1,c2,c3,c4,-,-,-,-,-⟩:=F.out.A
 obtain⟨n0,n1,n2,n3,n4,n5,n6,n7,n8,n9,m0,m1,m2,m3,m4,m5,m6,m7,m8,m9⟩:=F.out.N
 obtain⟨e0,e1,e2,e3,e4,g0,g1,g2,g3,g4⟩:=F.out.R
 have BV:=zH F.out.B
 have hS:(V8.drew.cell? ⟨bx,0,none⟩=some (zI zL 1)/\V8.drew.cell? ⟨bx,1,none⟩=some (zI zL at0)/\V8.drew.cell? ⟨bx,2,none⟩=some (.string ⟨#[]⟩)/\V8.drew.cell? ⟨bx,3,none⟩=some (zI zL mx)/\V8.drew.cell? ⟨bx,4,none⟩=some (zI zL my)/\V8.drew.cell? ⟨bx,5,none⟩=some (.bool (uF 2))/\V8.drew.cell? ⟨bx,6,none⟩=some (zI zL (uM 2))/\V8.drew.cell? ⟨bx,7,none⟩=some (zI zL (uA 2))/\V8.drew.cell? ⟨bx,8,none⟩=some (zI zL (uD 2))/\V8.drew.cell? ⟨bx,9,none⟩=some (.slice none 0 0))/\(V8.drew.cell? ⟨w.heap.size,0,none⟩=some (.slice (some ⟨b,off,none⟩) n cap)/\V8.drew.cell? ⟨w.heap.size,1,none⟩=some (zI zL ((k:Int)+1+1))/\V8.drew.cell? ⟨w.heap.size,2,none⟩=some (zI zL En)/\V8.drew.cell? ⟨w.heap.size,3,none⟩=some (zI zL 0)/\V8.drew.cell? ⟨w.heap.size,4,none⟩=some (zI zL O)):=⟨⟨x0,x1,x2,x3,x4,x5,x6,x7,x8,x9⟩,⟨c0,c1,c2,c3,c4⟩⟩
 refine wp_region_held (S:=fun w':World=>(w'.cell? ⟨bx,0,none⟩=some (zI zL 1)/\w'.cell? ⟨bx,1,none⟩=some (zI zL at0)/\w'.cell? ⟨bx,2,none⟩=some (.string ⟨#[]⟩)/\w'.cell? ⟨bx,3,none⟩=some (zI zL mx)/\w'.cell? ⟨bx,4,none⟩=some (zI zL my)/\w'.cell? ⟨bx,5,none⟩=some (.bool (uF 2))/\w'.cell? ⟨bx,6,none⟩=some (zI zL (uM 2))/\w'.cell? ⟨bx,7,none⟩=some (zI zL (uA 2))/\w'.cell? ⟨bx,8,none⟩=some (zI zL (uD 2))/\w'.cell? ⟨bx,9,none⟩=some (.slice none 0 0))/\(w'.cell? ⟨w.heap.size,0,none⟩=some (.slice (some ⟨b,off,none⟩) n cap)/\w'.cell? ⟨w.heap.size,1,none⟩=some (zI zL ((k:Int)+1+1))/\w'.cell? ⟨w.heap.size,2,none⟩=some (zI zL En)/\w'.cell? ⟨w.heap.size,3,none⟩=some (zI zL 0)/\w'.cell? ⟨w.heap.size,4,none⟩=some (zI zL O))) mixed ?_
 change wpAnyH _ _ _ _ _ _ _ _ V8.drew
 refine tk0 (v:=?_) zab zab zab (fun _ _ _ h=>h) (Or.inl ⟨by rfl,?_⟩) hS ?_
 rotate_left
 ·(intro w hSw;(try dsimp only at hSw);go_simp;try with_reducible rfl)
 simp only[Act.put,zA,zB,zC]
 refine tk1 (v:=?_) zab zab zab (fun _ _ _ h=>h) (Or.inl ⟨by rfl,?_⟩) hS ?_
 rotate_left
 ·(intro w hSw;(try dsimp only at hSw);go_simp;try with_reducible rfl)
 simp only[Act.put,zA,zB,zC]
 refine wpAnyH_ready (rs:=[2]) zab (by simp) (st2 (fun K hK=>?_) AllReadyH.nil)
 go_simp
 refine hK.out _ _ ?_ (fun hHeld=>?_)
 ·exact Cw
 clear hK K
 try simp only[Act.put,zA,zB,zC]
 refine wpAnyH_ready (rs:=[3]) zab (by simp) (st3 (fun K hK=>?_) AllReadyH.nil)
 go_simp
 refine hK.out _ _ ?_ (fun hHeld=>?_)
 ·exact Cw
 clear hK K
 try simp only[Act.put,zA,zB,zC]
 refine wpAnyH_done zab ?_ _
 go_wp2_with fail
 exact bodyPost_ret (v:= .tuple #[.agg #[zI zL 1,zI zL at0,.string ⟨#[]⟩,zI zL mx,zI zL my,.bool (uF 2),zI zL (uM 2),zI zL (uA 2),zI zL (uD 2),.slice none 0 0],.agg #[.slice (some ⟨b,off,none⟩) n cap,zI zL ((k:Int)+1+1),zI zL En,zI zL 0,zI zL O]]) zap rfl (HP.out _ zae)
theorem mQ (ts:List Tok)(p:Option Addr)(b off cap n k En:Nat)(O:Int)(w:World)(hS:SlT w p b off n ts)(hkt:k<ts.length)(hkt2:k+1<ts.length)(h1:isN (ts.drop k)=true)(n0 : -9223372036854775808<=ts[k].n)(n1:ts[k].n<=9223372036854775807)(d0 : -9223372036854775808<=ts[k].d)(d1:ts[k].d<=9223372036854775807)(h2:which units (ts.drop (k+1))=some 2)(hz:(M0 ts[k].n ts[k].d).2.2≠0) :
  Calls Tryz.prog 71 #[.agg #[.slice p n cap,zI zL k,zI zL En,zI zL 0,zI zL O]] w fun e w'=>bO w ts p n cap En (k+2:Nat) 3 (ag ts En (n-k)) (none:Option Tree) e w':=by
 have hmx:=hS.max
 have hl:=hS.ln
 have hk1:IntKind.i64.wrap ((k:Int)+1)=((k+1:Nat):Int):=zal
 have hk2:IntKind.i64.wrap ((k:Int)+1+1)=((k+2:Nat):Int):=zcd
 have hk3:IntKind.i64.wrap (k:Int)=(k:Int):=IntWalk.i64_in _ zac
 have hz1:(k:Int)<(n:Int):=zac
 have hp:=hS.ptr zac
 have KO:=zH (fun w hS=>aj ts p b off cap n k En 0 O w hS zac)
 have KN:=zH (fun w hS=>bR ts p b off cap n k En O w hS)
 rw[h1] at KN
 have KW:Hid (∀w p2 b2 cap2,SlT w p b off n ts->SlS w p2 b2 0 5 units->Calls Tryz.prog 42 #[.agg #[.slice p n cap,zI zL ((k:Int)+1),zI zL En,zI zL 0,zI zL O],.slice p2 5 cap2] w fun e w'=>e = .returned (zI zL (2:Nat))/\RowKit.Below w.heap.size w w'):=fun w p2 b2 cap2 hS hL=>by
  have h:=bM units ts p p2 b off cap n (k+1) b2 0 cap2 5 En O w hS hL
  rw[h2] at h
  exact h
 have KU:=zH (fun w=>iq 2 w zac)
 have KM:=zH (fun w=>qm ts[k].n ts[k].d 100 1 w n0 n1 d0 d1 zah zah zah zah)
 rw[show op2 ts[k].n ts[k].d 100 1 (ts[k].n*100) (ts[k].d*1)=M0 ts[k].n ts[k].d from rfl] at KM
 have KF:=zH (fun a0 w=>bA p n cap ((k:Int)+1+1) En 0 O 3 a0 w)
 have HC:=zH (fun v (h:RowKit.Below w.heap.size w v)=>(hS.bel h).cells k hkt)
 have HS:=zH hS
 have HP:Hid (∀w',RowKit.Below w.heap.size w w'->bO w ts p n cap En ((k:Int)+1+1) 3 (ag ts En (n-k)) (none:Option Tree) (.returned (.tuple #[.agg #[zI zL 0,zI zL 0,.string ⟨#[]⟩,zI zL 0,zI zL 0,.bool false,zI zL 0,zI zL 0,zI zL 0,.slice none 0 0],.agg #[.slice p n cap,zI zL ((k:Int)+1+1),zI zL En,zI zL 3,zI zL (ag ts En (n-k))]])) w'):=fun w' hb =>
  ⟨⟨0,0,⟨#[]⟩,0,0,false,0,0,0,none,0,0⟩,rfl,(fun u hu=>by cases hu),hb⟩
 rw[show((k+2:Nat):Int)=((k:Int)+1+1) by omega]
 rw[show((k+2:Nat):Int)=((k:Int)+1+1) by omega] at hk2
 obtain⟨⟨mx,my,me⟩,hM⟩:∃q:Int×Int×Int,q=M0 ts[k].n ts[k].d:=⟨_,rfl⟩
 rw[<-hM] at KM hz
 clear hM
 generalize (none:Option Tree)=tt at *
 generalize ag ts En (n-k)=at0 at *
 generalize ts[k]=t at *
 obtain⟨tk,ta,tx,tn,td⟩:=t
 simp only at KM hz
 clear h1 h2 hS
 subst hp
 obtain⟨W3,hW3⟩:∃W3,W3=((w.alloc (.cells #[.slice (some ⟨b,off,none⟩) n cap,zI zL k,zI zL En,zI zL 0,zI zL O] 62)).alloc (.cells #[zI zL 0,zI zL 0,.string ⟨#[]⟩,zI zL 0,zI zL 0,.bool false,zI zL 0,zI zL 0,zI zL 0,.slice none 0 0] 36)).alloc (.cells #[.slice none 0 0,zI zL 0,zI zL 0,zI zL 0,zI zL 0] 62):=⟨_,rfl⟩
 have F:=zH (Fr.new w (some ⟨b,off,none⟩) n cap k En 0 O 62 36)
 rw[<-hW3] at F
 go_enter Tryz.func71,Tryz.ntmps71
 go_wp2_with fail
 rw[<-hW3]
 clear hW3
 have hme:(me==0)=false:=by simpa using hz
 have hme2:(me != 0)=true:=by simpa using hz
 clear hz
 refine(KO.out _ (HS.out.bel F.out.B)).mono ?_
 rintro _ v1 ⟨rfl,hb⟩
 replace F:=zH (F.out.bel hb)
 clear hb
 obtain⟨c0,c1,c2,c3,c4,f0,f1,f2,f3,f4⟩:=F.out.A
 go_wp2_with fail
 refine(KN.out _ (HS.out.bel F.out.B)).mono ?_
 rintro _ v2 ⟨rfl,hb⟩
 replace F:=zH (F.out.bel hb)
 clear c0 c1 c2 c3 c4 f0 f1 f2 f3 f4
 clear hb
 obtain⟨c0,c1,c2,c3,c4,f0,f1,f2,f3,f4⟩:=F.out.A
 obtain⟨a0,a1,a2,a3,a4⟩:=HC.out v2 F.out.B
 have hsz:w.heap.size<v2.heap.size:=World.block_lt_of_cell? _ _ c0
 have hv1:w.heap.size+2<v2.heap.size:=World.block_lt_of_cell? _ _ F.out.R.c0
 go_wp2_with fail
 have ha:=(Below.refl (v2.setCell ⟨w.heap.size,1,none⟩ (zI zL ((k:Int)+1))).heap.size (v2.setCell ⟨w.heap.size,1,none⟩ (zI zL ((k:Int)+1)))).alloc (Nat.le_refl _) (.cells #[zI zL 1,zI zL at0,.string ⟨#[]⟩,zI zL tn,zI zL td,.bool false,zI zL 0,zI zL 0,zI zL 0,.slice none 0 0] 36)
 have X:=zH (B10.new (v2.setCell ⟨w.heap.size,1,none⟩ (zI zL ((k:Int)+1))) (zI zL 1) (zI zL at0) (.string ⟨#[]⟩) (zI zL tn) (zI zL td) (.bool false) (zI zL 0) (zI zL 0) (zI zL 0) (.slice none 0 0) 36)
 rw[show(v2.setCell ⟨w.heap.size,1,none⟩ (zI zL ((k:Int)+1))).heap.size=v2.heap.size by simp[World.setCell]] at X
 replace F:=zH ((F.out.inc ((k:Int)+1)).bel ha)
 clear ha c0 c1 c2 c3 c4 f0 f1 f2 f3 f4 a0 a1 a2 a3 a4
 generalize (v2.setCell ⟨w.heap.size,1,none⟩ (zI zL ((k:Int)+1))).alloc (.cells #[zI zL 1,zI zL at0,.string ⟨#[]⟩,zI zL tn,zI zL td,.bool false,zI zL 0,zI zL 0,zI zL 0,.slice none 0 0] 36)=V at *
 generalize v2.heap.size=bx at *
 obtain⟨c0,c1,c2,c3,c4,-,-,-,-,-⟩:=F.out.A
 have hS:(V.drew.cell? ⟨w.heap.size,0,none⟩=some (.slice (some ⟨b,off,none⟩) n cap)/\V.drew.cell? ⟨w.heap.size,1,none⟩=some (zI zL ((k:Int)+1))/\V.drew.cell? ⟨w.heap.size,2,none⟩=some (zI zL En)/\V.drew.cell? ⟨w.heap.size,3,none⟩=some (zI zL 0)/\V.drew.cell? ⟨w.heap.size,4,none⟩=some (zI zL O)):=⟨c0,c1,c2,c3,c4⟩
 refine wp_region_held (S:=fun w':World=>(w'.cell? ⟨w.heap.size,0,none⟩=some (.slice (some ⟨b,off,none⟩) n cap)/\w'.cell? ⟨w.heap.size,1,none⟩=some (zI zL ((k:Int)+1))/\w'.cell? ⟨w.heap.size,2,none⟩=some (zI zL En)/\w'.cell? ⟨w.heap.size,3,none⟩=some (zI zL 0)/\w'.cell? ⟨w.heap.size,4,none⟩=some (zI zL O))) mixed ?_
 change wpAnyH _ _ _ _ _ _ _ _ V.drew
 refine tk0 (v:=?_) zab zab zab (fun _ _ _ h=>h) (Or.inl ⟨by rfl,?_⟩) hS ?_
 rotate_left
 ·(intro w hSw;(try dsimp only at hSw);go_simp;try with_reducible rfl)
 simp only[Act.put,zA,zB,zC]
 refine wpAnyH_ready (rs:=[1]) zab (by simp) (st1 (fun K hK=>?_) AllReadyH.nil)
 go_simp
 refine(dY _).mono ?_
 rintro _ v5 ⟨q5,b5,cap5,rfl,hs5,hb5⟩
 go_wp2_with fail
 have hb5':=(Below.refl V.heap.size V).drew.trans hb5
 replace F:=zH (F.out.bel hb5')
 replace X:=zH (X.out.bel hb5')
 clear hb5 c0 c1 c2 c3 c4
 obtain⟨c0,c1,c2,c3,c4,-,-,-,-,-⟩:=F.out.A
 refine hK.out _ _ ?_ (fun hHeld=>?_)
 ·exact⟨c0,c1,c2,c3,c4⟩
 clear hK K
 try simp only[Act.put,zA,zB,zC]
 refine wpAnyH_ready (rs:=[2]) zab (by simp) (st2 (fun K hK=>?_) AllReadyH.nil)
 go_simp
 refine(KW.out _ _ _ _ (HS.out.bel F.out.B) hs5).mono ?_
 rintro _ v6 ⟨rfl,hb6⟩
 go_wp2_with fail
 replace F:=zH (F.out.bel hb6)
 replace X:=zH (X.out.bel hb6)
 clear hb5' hs5 c0 c1 c2 c3 c4
 obtain⟨c0,c1,c2,c3,c4,-,-,-,-,-⟩:=F.out.A
 refine hK.out _ _ ?_ (fun hHeld=>?_)
 ·exact⟨c0,c1,c2,c3,c4⟩
 clear hK K
 try simp only[Act.put,zA,zB,zC]
 refine wpAnyH_ready (rs:=[3]) zab (by simp) (st3 (fun K hK=>?_) AllReadyH.nil)
 go_simp
 refine hK.out _ _ ?_ (fun hHeld=>?_)
 ·exact⟨c0,c1,c2,c3,c4⟩
 clear hK K
 try simp only[Act.put,zA,zB,zC]
 refine wpAnyH_done zab ?_ _
 clear hS
 obtain⟨-,-,-,-,-,f0,f1,f2,f3,f4⟩:=F.out.A
 go_wp2_with fail
 replace F:=zH (F.out.inc ((k:Int)+1+1))
 replace X:=zH (X.out.other (r:=w.heap.size) zac 1 none (zI zL ((k:Int)+1+1)))
 clear c0 c1 c2 c3 c4 f0 f1 f2 f3 f4
 generalize v6.setCell ⟨w.heap.size,1,none⟩ (zI zL ((k:Int)+1+1))=V6 at *
 refine(KU.out _).mono ?_
 rintro _ v7 ⟨rfl,hb7⟩
 replace F:=zH (F.out.bel hb7)
 replace X:=zH (X.out.bel hb7)
 clear hb7
 obtain⟨x0,x1,x2,x3,x4,x5,x6,x7,x8,x9,y0,y1,y2,y3,y4,y5,y6,y7,y8,y9⟩:=X.out
 obtain⟨c0,c1,c2,c3,c4,f0,f1,f2,f3,f4⟩:=F.out.A
 go_wp2_with fail
 have hk:=(((Kept.refl bx v7).setCell 5 none (.bool (uF 2))).setCell 6 none (zI zL (uM 2))).setCell 7 none (zI zL (uA 2)) |>.setCell 8 none (zI zL (uD 2))
 replace F:=zH (F.out.kept hk hv1)
 replace X:=zH (X.out.unit (.bool (uF 2)) (zI zL (uM 2)) (zI zL (uA 2)) (zI zL (uD 2)))
 clear hk x0 x1 x2 x3 x4 x5 x6 x7 x8 x9 y0 y1 y2 y3 y4 y5 y6 y7 y8 y9 c0 c1 c2 c3 c4 f0 f1 f2 f3 f4
 generalize (((v7.setCell ⟨bx,5,none⟩ (.bool (uF 2))).setCell ⟨bx,6,none⟩ (zI zL (uM 2))).setCell ⟨bx,7,none⟩ (zI zL (uA 2))).setCell ⟨bx,8,none⟩ (zI zL (uD 2))=V7 at *
 refine(KM.out _).mono ?_
 rintro _ v8 ⟨rfl,hb8⟩
 replace F:=zH (F.out.bel hb8)
 replace X:=zH (X.out.bel hb8)
 clear hb8
 obtain⟨x0,x1,x2,x3,x4,x5,x6,x7,x8,x9,y0,y1,y2,y3,y4,y5,y6,y7,y8,y9⟩:=X.out
 obtain⟨c0,c1,c2,c3,c4,f0,f1,f2,f3,f4⟩:=F.out.A
 have hbx:=World.block_lt_of_cell? _ _ x0
 have hw8:=World.block_lt_of_cell? _ _ c0
 go_wp2_with fail
 have hk:=((Kept.refl bx v8).setCell 3 none (zI zL mx)).setCell 4 none (zI zL my)
 replace F:=zH (F.out.kept hk hv1)
 replace X:=zH (X.out.num (zI zL mx) (zI zL my))
 clear hk x0 x1 x2 x3 x4 x5 x6 x7 x8 x9 y0 y1 y2 y3 y4 y5 y6 y7 y8 y9 c0 c1 c2 c3 c4 f0 f1 f2 f3 f4 hbx hw8
 have ha:=(Below.refl ((v8.setCell ⟨bx,3,none⟩ (zI zL mx)).setCell ⟨bx,4,none⟩ (zI zL my)).heap.size ((v8.setCell ⟨bx,3,none⟩ (zI zL mx)).setCell ⟨bx,4,none⟩ (zI zL my))).alloc (Nat.le_refl _) (.cells #[zI zL mx,zI zL my] 31)
 replace F:=zH (F.out.bel ha)
 replace X:=zH (X.out.bel ha)
 clear ha
 generalize ((v8.setCell ⟨bx,3,none⟩ (zI zL mx)).setCell ⟨bx,4,none⟩ (zI zL my)).alloc (.cells #[zI zL mx,zI zL my] 31)=V8 at *
 refine(KF.out at0 _).mono ?_
 rintro _ v9 ⟨rfl,hb9⟩
 replace F:=zH (F.out.bel hb9)
 clear hb9
 obtain⟨c0,c1,c2,c3,c4,f0,f1,f2,f3,f4⟩:=F.out.A
 obtain⟨n0,n1,n2,n3,n4,n5,n6,n7,n8,n9,m0,m1,m2,m3,m4,m5,m6,m7,m8,m9⟩:=F.out.N
 obtain⟨e0,e1,e2,e3,e4,g0,g1,g2,g3,g4⟩:=F.out.R
 have BV:=zH F.out.B
 go_wp2_with fail
 exact bodyPost_ret (v:= .tuple #[.agg #[zI zL 0,zI zL 0,.string ⟨#[]⟩,zI zL 0,zI zL 0,.bool false,zI zL 0,zI zL 0,zI zL 0,.slice none 0 0],.agg #[.slice (some ⟨b,off,none⟩) n cap,zI zL ((k:Int)+1+1),zI zL En,zI zL 3,zI zL at0]]) zap rfl (HP.out _ zae)
end Go.Proofs.YtnjfolljbfkojaaGreatDoor
