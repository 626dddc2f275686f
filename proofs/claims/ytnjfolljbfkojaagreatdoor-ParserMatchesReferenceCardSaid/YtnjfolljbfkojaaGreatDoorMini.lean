import Derived.WalkKit
import Derived.WalkSpells
import Derived.WalkLawsBesides
import Derived.Lib.Hide
import Derived.Lib.IndexBytes
import Derived.Deep.Draws
import Derived.Deep.LoopGhost
import Derived.Deep.QuietTactic
import Derived.Deep.OwnRows
import Derived.Deep.AppendLies
import Derived.BigQuiet
import Derived.OwnWalkIn
import Derived.Laws.OwnMore
import Derived.Shelf.SlSortCmp.QuietGrown
import Derived.Defers
import Derived.Recover
import Derived.Laws.Pointers
import Derived.RegionTactic
import Derived.BigRegion
import Derived.Deep.DrawnRows
import Derived.StillTailTactics
import Derived.Lib.IndexLaws
import Derived.Lib.Bytealg
import Derived.Maps.AppendAt
import Derived.ProofKit
import Derived.Deep.RegionHeld3
import Derived.Maps.Own
import Derived.MapKept
import Derived.Laws.StructEq
import Derived.Deep.WholeRow
import Derived.Deep.Cut
import Derived.Deep.RegionWith
import Derived.Deep.MidRow
import Derived.Shelf.Strconv.Atoi
import Derived.Shelf.Strconv.Clone
import Derived.Shelf.Strings.Search1
import Derived.Shelf.Strings.Search2
import Derived.Shelf.Strings.Prefix
namespace Go.Proofs.YtnjfolljbfkojaaGreatDoor
open Go.RowKit
theorem zE(x:UInt8)(k:Int)(b:Bool)(h:((x.toNat:Int)==k)=b):((x.toNat:Int)==k)=b:=h
theorem zA{α:Type _}(xs:List α)(i:Nat)(a:α):xs.toArray.setIfInBounds i a=(xs.set i a).toArray:=List.setIfInBounds_toArray xs i a
theorem zB{α:Type _}(x:α)(xs:List α)(a:α):(x::xs).set 0 a=a::xs:=List.set_cons_zero
theorem zC{α:Type _}(x:α)(xs:List α)(i:Nat)(a:α):(x::xs).set (i+1) a=x::xs.set i a:=List.set_cons_succ
theorem zab{P:Prop}(h:P:=by kernel_rfl):P:=h
theorem zac{P:Prop}(h:P:=by omega):P:=h
theorem zad{P:Prop}(h:P:=by rw[HG.out,HK.out];rfl):P:=h
theorem zae{P:Prop}(h:P:=by repeat' (first|(with_reducible exact BV.out)|(with_reducible refine Below.setCell ?_ ?_ _)|(with_reducible refine Below.alloc ?_ ?_ _)|(with_reducible refine Below.drew ?_)|(with_reducible refine below_drewN ?_ _)|(with_reducible exact Below.refl _ _)|omega|(simp;done)|(simp;omega))):P:=h
theorem zaf{P:Prop}(h:P:=by repeat' (first|(with_reducible exact HR.out)|(with_reducible refine Below.setCell ?_ ?_ _)|(with_reducible refine Below.alloc ?_ ?_ _)|(with_reducible refine Below.drew ?_)|(with_reducible refine below_drewN ?_ _)|(with_reducible exact Below.refl _ _)|omega|(simp;done)|(simp;omega))):P:=h
theorem zag{P:Prop}(h:P:=by rw[HG.out];rfl):P:=h
theorem zah{P:Prop}(h:P:=by decide):P:=h
theorem zai{P:Prop}(h:P:=by simp;omega):P:=h
theorem zaj{P:Prop}(h:P:=by rw[HG.out];simp;omega):P:=h
theorem zak{P:Prop}(h:P:=by repeat' (first|(with_reducible exact B4.out)|(with_reducible refine Below.setCell ?_ ?_ _)|(with_reducible refine Below.alloc ?_ ?_ _)|(with_reducible refine Below.drew ?_)|(with_reducible refine below_drewN ?_ _)|(with_reducible exact Below.refl _ _)|omega|(simp;done)|(simp;omega))):P:=h
theorem zal{P:Prop}(h:P:=by rw[IntWalk.i64_in _ (by omega)];rfl):P:=h
theorem zam{P:Prop}(h:P:=by have h1:=(S0.out.bel hb).kp.size;have h2:=S0.out.bl;omega):P:=h
theorem zan{P:Prop}(h:P:=by repeat' (first|exact Below.refl _ _|refine Below.setCell ?_ (by first|omega|(simp;done)|(simp;omega)) _|refine below_drewN ?_ _|refine Below.alloc ?_ (by first|omega|(simp;done)|(simp;omega)) _)):P:=h
theorem zao{P:Prop}(h:P:=by show ¬bq<bq;omega):P:=h
theorem zap{P:Prop}(h:P:=by simp[results,Tryz.results71,go_sem,n0,n1,n2,n3,n4,n5,n6,n7,n8,n9,e0,e1,e2,e3,e4]):P:=h
theorem zaq{P:Prop}(h:P:=by have:=hd.out;show _=_;simpa[HK.out,hS.out] using this):P:=h
theorem zar{P:Prop}(h:P:=by first|(simp;done)|(simp;omega)):P:=h
theorem zas{P:Prop}(h:P:=by first|omega|(simp;done)|(simp;omega)):P:=h
theorem zat{P:Prop}(h:P:=by rw[hW2];exact((Below.refl w.heap.size w).alloc (Nat.le_refl _) _).alloc (by simp) _):P:=h
theorem zau{P:Prop}(h:P:=by show _<=w.heap.size+1;omega):P:=h
theorem zav{P:Prop}(h:P:=by have:=hd.out;show _=_;simpa[hS.out] using this):P:=h
theorem zaw{P:Prop}(h:P:=by repeat' (first|(with_reducible exact B2.out)|(with_reducible refine Below.setCell ?_ ?_ _)|(with_reducible refine Below.alloc ?_ ?_ _)|(with_reducible refine Below.drew ?_)|(with_reducible refine below_drewN ?_ _)|(with_reducible exact Below.refl _ _)|omega|(simp;done)|(simp;omega))):P:=h
theorem zax{P:Prop}(h:P:=by repeat' (first|(with_reducible exact XB.out)|(with_reducible refine Below.setCell ?_ ?_ _)|(with_reducible refine Below.alloc ?_ ?_ _)|(with_reducible refine Below.drew ?_)|(with_reducible refine below_drewN ?_ _)|(with_reducible exact Below.refl _ _)|omega|(simp;done)|(simp;omega))):P:=h
theorem zay{P:Prop}(h:P:=by repeat' (first|(with_reducible exact BB)|(with_reducible refine Below.setCell ?_ ?_ _)|(with_reducible refine Below.alloc ?_ ?_ _)|(with_reducible refine Below.drew ?_)|(with_reducible refine below_drewN ?_ _)|(with_reducible exact Below.refl _ _)|omega|(simp;done)|(simp;omega))):P:=h
theorem zaz{P:Prop}(h:P:=by simp only[nd,List.length_cons] at hN |-;omega):P:=h
theorem zba{P:Prop}(h:P:=by have h2:=World.block_lt_of_cell? _ _ (FR.out.R.c0);simp only at h2;exact h2):P:=h
theorem zbb{P:Prop}(h:P:=by simp[World.setCell]):P:=h
theorem zbc{P:Prop}(h:P:=by constructor):P:=h
theorem zbd{P:Prop}(h:P:=by have:=h.lt;omega):P:=h
theorem zbe{P:Prop}(h:P:=by repeat' (first|exact B1.out.1|refine Below.setCell ?_ (by first|exact Nat.le_refl _|(simp;done)) _)):P:=h
theorem zbf{P:Prop}(h:P:=by repeat' (first|exact Below.refl _ _|refine Below.setCell ?_ (by simp) _|refine below_drewN ?_ _|refine Below.alloc ?_ (by simp) _)):P:=h
theorem zbg{P:Prop}(h:P:=by have h1:=fU ks i hi;have h2:=jL ks (i+1);omega):P:=h
theorem zbh{P:Prop}(h:P:=by show bx<_;omega):P:=h
theorem zbi{P:Prop}(h:P:=by show bq<_;omega):P:=h
theorem zbj{P:Prop}(h:P:=by simp[Value.oneCell']):P:=h
theorem zbk{P:Prop}(h:P:=by simp[results,Tryz.results8,go_sem,n0,n1,n2,n3,n4,n5,n6,n7,n8,n9]):P:=h
theorem zbl{P:Prop}(h:P:=by simp[results,Tryz.results51,go_sem,n0,n1,n2,n3,n4,n5,n6,n7,n8,n9,e0,e1,e2,e3,e4]):P:=h
theorem zbm{P:Prop}(h:P:=by show ¬_<=w.heap.size+1;omega):P:=h
theorem zbn{P:Prop}(h:P:=by rw[List.length_drop];omega):P:=h
theorem zbo{P:Prop}(h:P:=by rw[IntWalk.i64_in _ (by omega)]):P:=h
theorem zbp{P:Prop}(h:P:=by repeat' (first|exact B0.out|refine Below.setCell ?_ (by first|exact Nat.le_refl _|(simp;done)) _)):P:=h
theorem zbq{P:Prop}(h:P:=by first|exact Nat.le_refl _|(simp;done)):P:=h
theorem zbr{P:Prop}(h:P:=by show _=_;unfold bN;rw[tJ (by unfold uH;rw[hW];omega)];rfl):P:=h
theorem zbs{P:Prop}(h:P:=by simp[results,Tryz.results138,go_sem,y0,y1,y2,y3,y4,y5,y6,y7,y8,y9]):P:=h
theorem zbt{P:Prop}(h:P:=by simpa using h):P:=h
theorem zbu{P:Prop}(h:P:=by rw[HR.out];rfl):P:=h
theorem zbv{P:Prop}(h:P:=by rw[<-ex];exact(Int.natCast_ediv _ _).symm):P:=h
theorem zbw{P:Prop}(h:P:=by rw[<-ey];exact(Int.natCast_ediv _ _).symm):P:=h
theorem zbx{P:Prop}(h:P:=by have:=HI.out.2.2;rw[qX hjl hB.out] at this;show _=_;omega):P:=h
theorem zby{P:Prop}(h:P:=by have:=World.block_lt_of_cell? _ _ (R0.out.bel hb).c0;exact this):P:=h
theorem zbz{P:Prop}(h:P:=by simp[results,Tryz.results47,go_sem,n0,n1,n2,n3,n4,n5,n6,n7,n8,n9,e0,e1,e2,e3,e4]):P:=h
theorem zca{P:Prop}(h:P:=by simp only[nd] at hN |-;omega):P:=h
theorem zcb{P:Prop}(h:P:=by rw[<-ex];exact Nat.lt_of_le_of_lt (Nat.div_le_self _ _) hX):P:=h
theorem zcc{P:Prop}(h:P:=by rw[<-ey];exact Nat.lt_of_le_of_lt (Nat.div_le_self _ _) hY):P:=h
theorem zcd{P:Prop}(h:P:=by rw[IntWalk.i64_in _ (by omega)];omega):P:=h
theorem zce{P:Prop}(h:P:=by rcases hj2 with rfl|hj2<;>omega):P:=h
theorem zcf{P:Prop}(h:P:=by show _=_;unfold bN;rw[tJ (by unfold uH;rw[hW];rw[<-hsz];omega)];rfl):P:=h
theorem zcg{P:Prop}(h:P:=by have:=congrArg List.length e;rw[List.length_drop] at this;simp at this;omega):P:=h
theorem zch{P:Prop}(h:P:=by show _<=j;omega):P:=h
theorem zci{P:Prop}(h:P:=by show _=_;rw[<-hq];simp[hx]):P:=h
theorem zcj{P:Prop}(h:P:=by rw[<-hl,List.length_drop,ay]):P:=h
theorem zck{P:Prop}(h:P:=by rw[hget.out k hks];exact I2.out (by rw[HLL.out];omega)):P:=h
theorem zcl{P:Prop}(h:P:=by have:=hd.out;show _=_;simpa[hS.out,h33,h60,h62,h123,h125,h40,h41,h59,h44,h58,h43,h45,h42,h47,h61] using this):P:=h
theorem zcm{P:Prop}(h:P:=by rw[bS s i h,hx]):P:=h
theorem zcn{P:Prop}(h:P:=by simp[results,Tryz.results39,go_sem,c0,c1,c2,c3,c4]):P:=h
theorem zco{P:Prop}(h:P:=by rw[<-ay,hx]):P:=h
theorem zcp{P:Prop}(h:P:=by show ¬_<=nb;omega):P:=h
theorem zcq{P:Prop}(h:P:=by simp[results,Tryz.results144,go_sem,y0,y1,y2,y3,y4,y5,y6,y7,y8,y9]):P:=h
theorem zcr{P:Prop}(h:P:=by have:=B.out.size;have:=hb1.size;omega):P:=h
theorem zcs{P:Prop}(h:P:=by simp[Act.eval,Array.replicate]):P:=h
theorem zct{P:Prop}(h:P:=by simp[results,Tryz.results44,go_sem]):P:=h
theorem zcu{P:Prop}(h:P:=by show(-9223372036854775808:Int)<=0;decide):P:=h
theorem zcv{P:Prop}(h:P:=by simpa using hE):P:=h
theorem zcw{P:Prop}(h:P:=by simpa using h2):P:=h
theorem zcx{P:Prop}(h:P:=by show(0:Int)<=9223372036854775807;decide):P:=h
theorem zcy{P:Prop}(h:P:=by simp[World.frozen?_setCell,f0]):P:=h
theorem zcz{P:Prop}(h:P:=by simp[World.frozen?_setCell,f1]):P:=h
theorem zda{P:Prop}(h:P:=by rw[zQ];decide):P:=h
theorem zdb{P:Prop}(h:P:=by simp[results,Tryz.results81,go_sem]):P:=h
theorem zdc{P:Prop}(h:P:=by simp[results,Tryz.results52,go_sem]):P:=h
theorem zz1{P:Prop}(h:P:=by
 refine hK.out _ _ ?_ (fun hHeld=>?_)
 ·exact hS
 clear hK K
 try simp only[Act.put,zA,zB,zC]
 refine wpAnyH_ready (rs:=[3]) zab (by simp) (st3 (fun K hK=>?_) AllReadyH.nil)
 go_simp
 refine(KF.out _).mono ?_
 rintro _ v8 ⟨rfl,hb⟩
 go_wp2_with fail
 replace F:=zH (F.out.bel hb)
 replace D:=zH (D.out.bel (Nat.succ_pos _) hb)
 clear hb c0 c1 c2 c3 c4 f0 f1 f2 f3 f4
 obtain⟨c0,c1,c2,c3,c4,f0,f1,f2,f3,f4⟩:=F.out.A
 refine hK.out _ _ ?_ (fun hHeld=>?_)
 ·exact hS
 clear hK K
 try simp only[Act.put,zA,zB,zC]
 refine wpAnyH_ready (rs:=[4]) zab (by simp) (st4 (fun K hK=>?_) AllReadyH.nil)
 go_simp
 obtain⟨hF,hK1⟩:=F.out.put (k4:Nat) E4 O4
 replace F:=zH hF
 replace D:=zH (D.out.call (Nat.succ_pos _) hK1 zac)
 clear hF hK1 c0 c1 c2 c3 c4 f0 f1 f2 f3 f4
 generalize (((((v8.setCell ⟨w.heap.size,0,none⟩ (.slice p n cap)).setCell ⟨w.heap.size,1,none⟩ (zI zL (k4:Nat))).setCell ⟨w.heap.size,2,none⟩ (zI zL En)).setCell ⟨w.heap.size,3,none⟩ (zI zL E4)).setCell ⟨w.heap.size,4,none⟩ (zI zL O4))=V6 at *
 refine hK.out _ _ ?_ (fun hHeld=>?_)
 ·exact hS
 clear hK K
 try simp only[Act.put,zA,zB,zC]
 refine wpAnyH_done zab ?_ _
 clear hS
 obtain⟨c0,c1,c2,c3,c4,f0,f1,f2,f3,f4⟩:=F.out.A
 go_wp2_with fail
 refine(q5.out _ (HS.out.bel F.out.B)).mono ?_
 rintro _ v9 ⟨lov,rfl,hlov,hb⟩
 have Hlov:=zH hlov
 clear hlov
 replace F:=zH (F.out.bel hb)
 replace D:=zH (D.out.bel (Nat.succ_pos _) hb)
 clear hb c0 c1 c2 c3 c4 f0 f1 f2 f3 f4
 obtain⟨c0,c1,c2,c3,c4,f0,f1,f2,f3,f4⟩:=F.out.A
 obtain⟨dc,df⟩:=D.out 5 _ rfl
 go_wp2_with fail
 clear dc df
 have hk:=(Kept.refl db v9).setCell 5 none (zI zL lov)
 replace F:=zH (F.out.kept hk zac)
 replace D:Hid (aH (v9.setCell ⟨db,5,none⟩ (zI zL lov)) db [.string nmv,.bool false,zI zL 0,zI zL 0,zI zL 0,zI zL lov,zI zL 0,zI zL at0]):=D.out.set 5 (zI zL lov)
 clear hk
 obtain⟨hF,hK⟩:=F.out.put (k5:Nat) E5 O5
 replace F:=zH hF
 replace D:=zH (D.out.call (Nat.succ_pos _) hK zac)
 clear hF hK c0 c1 c2 c3 c4 f0 f1 f2 f3 f4
 generalize ((((((v9.setCell ⟨db,5,none⟩ (zI zL lov)).setCell ⟨w.heap.size,0,none⟩ (.slice p n cap)).setCell ⟨w.heap.size,1,none⟩ (zI zL (k5:Nat))).setCell ⟨w.heap.size,2,none⟩ (zI zL En)).setCell ⟨w.heap.size,3,none⟩ (zI zL E5)).setCell ⟨w.heap.size,4,none⟩ (zI zL O5))=V14 at *
 obtain⟨c0,c1,c2,c3,c4,f0,f1,f2,f3,f4⟩:=F.out.A
 refine(q6.out _ (HS.out.bel F.out.B)).mono ?_
 rintro _ v10 ⟨rfl,hb⟩
 replace F:=zH (F.out.bel hb)
 replace D:=zH (D.out.bel (Nat.succ_pos _) hb)
 clear hb c0 c1 c2 c3 c4 f0 f1 f2 f3 f4
 obtain⟨c0,c1,c2,c3,c4,f0,f1,f2,f3,f4⟩:=F.out.A
 go_wp2_with fail
 obtain⟨hF,hK⟩:=F.out.put (k6:Nat) E6 O6
 replace F:=zH hF
 replace D:=zH (D.out.call (Nat.succ_pos _) hK zac)
 clear hF hK c0 c1 c2 c3 c4 f0 f1 f2 f3 f4
 generalize (((((v10.setCell ⟨w.heap.size,0,none⟩ (.slice p n cap)).setCell ⟨w.heap.size,1,none⟩ (zI zL (k6:Nat))).setCell ⟨w.heap.size,2,none⟩ (zI zL En)).setCell ⟨w.heap.size,3,none⟩ (zI zL E6)).setCell ⟨w.heap.size,4,none⟩ (zI zL O6))=V15 at *
 obtain⟨c0,c1,c2,c3,c4,f0,f1,f2,f3,f4⟩:=F.out.A
 refine(q7.out _ (HS.out.bel F.out.B)).mono ?_
 rintro _ v11 ⟨hiv,rfl,hhiv,hb⟩
 have Hhiv:=zH hhiv
 clear hhiv
 replace F:=zH (F.out.bel hb)
 replace D:=zH (D.out.bel (Nat.succ_pos _) hb)
 clear hb c0 c1 c2 c3 c4 f0 f1 f2 f3 f4
 obtain⟨c0,c1,c2,c3,c4,f0,f1,f2,f3,f4⟩:=F.out.A
 obtain⟨dc,df⟩:=D.out 6 _ rfl
 go_wp2_with fail
 clear dc df
 have hk:=(Kept.refl db v11).setCell 6 none (zI zL hiv)
 replace F:=zH (F.out.kept hk zac)
 replace D:Hid (aH (v11.setCell ⟨db,6,none⟩ (zI zL hiv)) db [.string nmv,.bool false,zI zL 0,zI zL 0,zI zL 0,zI zL lov,zI zL hiv,zI zL at0]):=D.out.set 6 (zI zL hiv)
 clear hk
 obtain⟨hF,hK⟩:=F.out.put (k7:Nat) E7 O7
 replace F:=zH hF
 replace D:=zH (D.out.call (Nat.succ_pos _) hK zac)
 clear hF hK c0 c1 c2 c3 c4 f0 f1 f2 f3 f4
 generalize ((((((v11.setCell ⟨db,6,none⟩ (zI zL hiv)).setCell ⟨w.heap.size,0,none⟩ (.slice p n cap)).setCell ⟨w.heap.size,1,none⟩ (zI zL (k7:Nat))).setCell ⟨w.heap.size,2,none⟩ (zI zL En)).setCell ⟨w.heap.size,3,none⟩ (zI zL E7)).setCell ⟨w.heap.size,4,none⟩ (zI zL O7))=V16 at *
 obtain⟨c0,c1,c2,c3,c4,f0,f1,f2,f3,f4⟩:=F.out.A
 have hb:=(Below.refl V16.heap.size V16).drew
 have hS:Hid (aH V16.drew db [.string nmv,.bool false,zI zL 0,zI zL 0,zI zL 0,zI zL lov,zI zL hiv,zI zL at0]/\B5 V16.drew w.heap.size (.slice p n cap) (zI zL (k7:Nat)) (zI zL En) (zI zL E7) (zI zL O7)):=⟨D.out.bel (Nat.succ_pos _) hb,F.out.A.bel hb⟩
 refine wp_region_held (S:=fun w':World=>Hid (aH w' db [.string nmv,.bool false,zI zL 0,zI zL 0,zI zL 0,zI zL lov,zI zL hiv,zI zL at0]/\B5 w' w.heap.size (.slice p n cap) (zI zL (k7:Nat)) (zI zL En) (zI zL E7) (zI zL O7))) mixed ?_
 change wpAnyH _ _ _ _ _ _ _ _ V16.drew
 replace F:=zH (F.out.bel hb)
 replace D:=zH (D.out.bel (Nat.succ_pos _) hb)
 clear hb c0 c1 c2 c3 c4 f0 f1 f2 f3 f4
 generalize V16.drew=U2 at *
 refine tk0 (v:= .agg #[.string nmv,.bool false,zI zL 0,zI zL 0,zI zL 0,zI zL lov,zI zL hiv,zI zL at0]) zab zab zab (fun _ _ _ h=>h) (Or.inl ⟨zab,?_⟩) hS ?_
 ·intro w' hSw
  exact aY rfl rfl (aS _ 8 zab zab w' db _ rfl hSw.out.1.row)
 simp only[Act.put,zA,zB,zC]
 refine tk1 (v:= .agg #[.slice p n cap,zI zL (k7:Nat),zI zL En,zI zL E7,zI zL O7]) zab zab zab (fun _ _ _ h=>h) (Or.inl ⟨zab,?_⟩) hS ?_
 ·intro w' hSw
  exact aY rfl rfl (aS _ 5 zab zab w' w.heap.size _ rfl hSw.out.2.row)
 simp only[Act.put,zA,zB,zC]
 refine wpAnyH_ready (rs:=[2]) zab (by simp) (st2 (fun K hK=>?_) AllReadyH.nil)
 go_simp
 refine(q8.out _ (HS.out.bel F.out.B)).mono ?_
 rintro _ v12 ⟨rfl,hb⟩
 go_wp2_with fail
 replace F:=zH (F.out.bel hb)
 replace D:=zH (D.out.bel (Nat.succ_pos _) hb)
 clear hb
 replace hS:Hid (aH v12 db [.string nmv,.bool false,zI zL 0,zI zL 0,zI zL 0,zI zL lov,zI zL hiv,zI zL at0]/\B5 v12 w.heap.size (.slice p n cap) (zI zL (k7:Nat)) (zI zL En) (zI zL E7) (zI zL O7)):=⟨D.out,F.out.A⟩
 refine hK.out _ _ ?_ (fun hHeld=>?_)
 ·exact hS
 clear hK K
 try simp only[Act.put,zA,zB,zC]
 obtain⟨n0,m0⟩:=F.out.N 0 _ rfl
 obtain⟨n1,m1⟩:=F.out.N 1 _ rfl
 obtain⟨n2,m2⟩:=F.out.N 2 _ rfl
 obtain⟨n3,m3⟩:=F.out.N 3 _ rfl
 obtain⟨n4,m4⟩:=F.out.N 4 _ rfl
 obtain⟨n5,m5⟩:=F.out.N 5 _ rfl
 obtain⟨n6,m6⟩:=F.out.N 6 _ rfl
 obtain⟨n7,m7⟩:=F.out.N 7 _ rfl
 obtain⟨e0,e1,e2,e3,e4,g0,g1,g2,g3,g4⟩:=F.out.R
 have BV:=zH F.out.B
 refine wpAnyH_ready (rs:=[3]) zab (by simp) (st3 (fun K hK=>?_) AllReadyH.nil)
 go_simp
 have hk:=(((((((((Kept.refl (w.heap.size+1) v12).setCell 0 none (.string nmv)).setCell 1 none (.bool false)).setCell 2 none (zI zL 0)).setCell 3 none (zI zL 0)).setCell 4 none (zI zL 0)).setCell 5 none (zI zL lov)).setCell 6 none (zI zL hiv)).setCell 7 none (zI zL at0))
 have hS0:=hS
 replace hS:Hid (aH _ db [.string nmv,.bool false,zI zL 0,zI zL 0,zI zL 0,zI zL lov,zI zL hiv,zI zL at0]/\B5 _ w.heap.size (.slice p n cap) (zI zL (k7:Nat)) (zI zL En) (zI zL E7) (zI zL O7)):=⟨hS0.out.1.call (Nat.succ_pos _) hk zac,hS0.out.2.kept hk zac⟩
 clear hk hS0
 refine hK.out _ _ ?_ (fun hHeld=>?_)
 ·exact hS
 clear hK K
 try simp only[Act.put,zA,zB,zC]
 refine wpAnyH_ready (rs:=[4]) zab (by simp) (st4 (fun K hK=>?_) AllReadyH.nil)
 go_simp
 have hk:=Kept.set5 (Kept.refl (w.heap.size+2) ((((((((v12.setCell ⟨w.heap.size+1,0,none⟩ (.string nmv)).setCell ⟨w.heap.size+1,1,none⟩ (.bool false)).setCell ⟨w.heap.size+1,2,none⟩ (zI zL 0)).setCell ⟨w.heap.size+1,3,none⟩ (zI zL 0)).setCell ⟨w.heap.size+1,4,none⟩ (zI zL 0)).setCell ⟨w.heap.size+1,5,none⟩ (zI zL lov)).setCell ⟨w.heap.size+1,6,none⟩ (zI zL hiv)).setCell ⟨w.heap.size+1,7,none⟩ (zI zL at0))) (.slice p n cap) (zI zL (k8:Nat)) (zI zL En) (zI zL E8) (zI zL O8)
 have hS0:=hS
 replace hS:Hid (aH _ db [.string nmv,.bool false,zI zL 0,zI zL 0,zI zL 0,zI zL lov,zI zL hiv,zI zL at0]/\B5 _ w.heap.size (.slice p n cap) (zI zL (k7:Nat)) (zI zL En) (zI zL E7) (zI zL O7)):=⟨hS0.out.1.call (Nat.succ_pos _) hk zac,hS0.out.2.kept hk zac⟩
 clear hk hS0
 refine hK.out _ _ ?_ (fun hHeld=>?_)
 ·exact hS
 clear hK K
 try simp only[Act.put,zA,zB,zC]
 refine wpAnyH_done zab ?_ _
 go_wp2_with fail
 refine bodyPost_ret (v:= .tuple #[.agg #[.string nmv,.bool false,zI zL 0,zI zL 0,zI zL 0,zI zL lov,zI zL hiv,zI zL at0],.agg #[.slice p n cap,zI zL (k8:Nat),zI zL En,zI zL E8,zI zL O8]]) (by simp[results,Tryz.results21,go_sem,n0,n1,n2,n3,n4,n5,n6,n7,e0,e1,e2,e3,e4]) rfl ⟨[.string nmv,.bool false,zI zL 0,zI zL 0,zI zL 0,zI zL lov,zI zL hiv,zI zL at0],rfl,zbj,rfl,fun d hd=>?_,zae⟩
 obtain⟨-,nm,u',lo',hi',a1,a2,a3,a4,rfl⟩:=HD.out d hd
 rw[hv4] at a2;cases a2):P:=h
theorem zz2{P:Prop}(h:P:=by
 refine hK.out _ _ ?_ (fun hHeld=>?_)
 ·exact hS
 clear hK K
 try simp only[Act.put,zA,zB,zC]
 refine wpAnyH_ready (rs:=[3]) zab (by simp) (st3 (fun K hK=>?_) AllReadyH.nil)
 go_simp
 refine(KF.out _).mono ?_
 rintro _ v8 ⟨rfl,hb⟩
 go_wp2_with fail
 replace Z:=zH (Z.out.bel hb)
 replace B:=zH (B.out.trans (hb.mono B.out.size))
 replace X:=zH (X.out.bel hb)
 replace Y:=zH (Y.out.bel hb)
 replace HS:=zH (HS.out.bel hb)
 clear hb y0 y1 y2 y3 y4 f0 f1 f2 f3 f4
 obtain⟨y0,y1,y2,y3,y4,f0,f1,f2,f3,f4⟩:=Y.out
 refine hK.out _ _ ?_ (fun hHeld=>?_)
 ·exact hS
 clear hK K
 try simp only[Act.put,zA,zB,zC]
 refine wpAnyH_ready (rs:=[4]) zab (by simp) (st4 (fun K hK=>?_) AllReadyH.nil)
 go_simp
 have hk1:=Kept.set5 (Kept.refl by0 v8) (.slice q n cap) (zI zL (k1:Nat)) (zI zL En) (zI zL 10) (zI zL (ag ts En (n-k1)))
 replace Z:=zH (Z.out.kept hk1 zac)
 replace B:=zH (B.out.trans (hk1.below zac B.out.size))
 replace X:=zH (X.out.kept hk1 zac)
 replace Y:=zH (Y.out.put (.slice q n cap) (zI zL (k1:Nat)) (zI zL En) (zI zL 10) (zI zL (ag ts En (n-k1))))
 clear hk1 HS y0 y1 y2 y3 y4 f0 f1 f2 f3 f4
 generalize (((((v8.setCell ⟨by0,0,none⟩ (.slice q n cap)).setCell ⟨by0,1,none⟩ (zI zL (k1:Nat))).setCell ⟨by0,2,none⟩ (zI zL En)).setCell ⟨by0,3,none⟩ (zI zL 10)).setCell ⟨by0,4,none⟩ (zI zL (ag ts En (n-k1))))=V6 at *
 refine hK.out _ _ ?_ (fun hHeld=>?_)
 ·exact hS
 clear hK K
 try simp only[Act.put,zA,zB,zC]
 refine wpAnyH_done zab ?_ _
 clear hS
 obtain⟨y0,y1,y2,y3,y4,f0,f1,f2,f3,f4⟩:=Y.out
 go_wp2_with fail
 have hS:Hid (B5 V6.drew by0 (.slice q n cap) (zI zL (k1:Nat)) (zI zL En) (zI zL 10) (zI zL (ag ts En (n-k1)))):=Y.out.bel (Below.refl _ _).drew
 refine wp_region_held (S:=fun w':World=>Hid (B5 w' by0 (.slice q n cap) (zI zL (k1:Nat)) (zI zL En) (zI zL 10) (zI zL (ag ts En (n-k1))))) mixed ?_
 change wpAnyH _ _ _ _ _ _ _ _ V6.drew
 refine tk0 (v:= .agg #[zI zL 0,zI zL 0,.string ⟨#[]⟩,zI zL 0,zI zL 0,.bool false,zI zL 0,zI zL 0,zI zL 0,.slice none 0 0]) zab zab zab (fun _ _ _ h=>h) (Or.inl ⟨zab,?_⟩) hS ?_
 ·intro w' hSw
  go_simp;try with_reducible rfl
 simp only[Act.put,zA,zB,zC]
 refine tk1 (v:= .pointer (some ⟨by0,3,none⟩)) zab zab zab (fun _ _ _ h=>h) (Or.inl ⟨zab,?_⟩) hS ?_
 ·intro w' hSw
  go_simp;try with_reducible rfl
 simp only[Act.put,zA,zB,zC]
 refine tk2 (v:= zI zL 10) zab zab zab (fun _ _ _ h=>h) (Or.inl ⟨zab,?_⟩) hS ?_
 ·intro w' hSw
  obtain⟨h0,h1,h2,h3,h4,-⟩:=hSw.out
  go_simp;try with_reducible rfl
 simp only[Act.put,zA,zB,zC]
 refine tk3 (v:= .pointer (some ⟨by0,4,none⟩)) zab zab zab (fun _ _ _ h=>h) (Or.inl ⟨zab,?_⟩) hS ?_
 ·intro w' hSw
  go_simp;try with_reducible rfl
 simp only[Act.put,zA,zB,zC]
 refine tk4 (v:= zI zL (ag ts En (n-k1))) zab zab zab (fun _ _ _ h=>h) (Or.inl ⟨zab,?_⟩) hS ?_
 ·intro w' hSw
  obtain⟨h0,h1,h2,h3,h4,-⟩:=hSw.out
  go_simp;try with_reducible rfl
 simp only[Act.put,zA,zB,zC]
 have hb:=(Below.refl V6.heap.size V6).drew
 replace Z:=zH (Z.out.bel hb)
 replace B:=zH (B.out.trans (hb.mono B.out.size))
 replace X:=zH (X.out.bel hb)
 replace Y:=zH (Y.out.bel hb)
 clear hb
 generalize V6.drew=VE at *
 obtain⟨n0,n1,n2,n3,n4,n5,n6,n7,n8,n9,m0,m1,m2,m3,m4,m5,m6,m7,m8,m9⟩:=Z.out
 have BV:=zH B.out
 refine wpAnyH_ready (rs:=[5]) zab (by simp) (st5 (fun K hK=>?_) AllReadyH.nil)
 go_simp
 have hk:=Kept.set10 (Kept.refl w.heap.size VE) (zI zL 0) (zI zL 0) (.string ⟨#[]⟩) (zI zL 0) (zI zL 0) (.bool false) (zI zL 0) (zI zL 0) (zI zL 0) (.slice none 0 0)
 have hS0:=hS
 replace hS:Hid (B5 _ by0 (.slice q n cap) (zI zL (k1:Nat)) (zI zL En) (zI zL 10) (zI zL (ag ts En (n-k1)))):=hS0.out.kept hk zac
 clear hk hS0
 refine hK.out _ _ ?_ (fun hHeld=>?_)
 ·exact hS
 clear hK K
 try simp only[Act.put,zA,zB,zC]
 refine wpAnyH_ready (rs:=[6]) zab (by simp) (st6 (fun K hK=>?_) AllReadyH.nil)
 go_simp
 refine hK.out _ _ ?_ (fun hHeld=>?_)
 ·exact hS
 clear hK K
 try simp only[Act.put,zA,zB,zC]
 refine wpAnyH_ready (rs:=[7]) zab (by simp) (st7 (fun K hK=>?_) AllReadyH.nil)
 go_simp
 refine hK.out _ _ ?_ (fun hHeld=>?_)
 ·exact hS
 clear hK K
 try simp only[Act.put,zA,zB,zC]
 refine wpAnyH_done zab ?_ _
 go_wp2_with fail
 exact bodyPost_ret (v:= .tuple #[.agg #[zI zL 0,zI zL 0,.string ⟨#[]⟩,zI zL 0,zI zL 0,.bool false,zI zL 0,zI zL 0,zI zL 0,.slice none 0 0],zI zL 10,zI zL (ag ts En (n-k1))]) zbk rfl ⟨rfl,zae⟩):P:=h
theorem zz3{P:Prop}(h:P:=by
 obtain⟨z0,z1,z2,z3,z4,z5,z6,z7,z8,z9,y0,y1,y2,y3,y4,y5,y6,y7,y8,y9⟩:=Xz.out
 refine wpAnyH_ready (rs:=[10]) zab (by simp) (Ei (fun K hK=>?_) AllReadyH.nil)
 go_simp
 clear z0 z1 z2 z3 z4 z5 z6 z7 z8 z9 y0 y1 y2 y3 y4 y5 y6 y7 y8 y9
 have hkz:=Kept.set10 (Kept.refl blz VF) (zI zL op) (zI zL at0) (.string ⟨#[]⟩) (zI zL 0) (zI zL 0) (.bool false) (zI zL 0) (zI zL 0) (zI zL 0) (.slice (some ⟨sl,0,none⟩) 2 2)
 replace Xz:=zH (Xz.out.put (zI zL op) (zI zL at0) (.string ⟨#[]⟩) (zI zL 0) (zI zL 0) (.bool false) (zI zL 0) (zI zL 0) (zI zL 0) (.slice (some ⟨sl,0,none⟩) 2 2))
 replace F:=zH (F.out.kept hkz zac)
 replace Xx:=zH (Xx.out.kept hkz zac)
 replace Xy:=zH (Xy.out.kept hkz zac)
 replace S5:=zH (S5.out.kept hkz zac)
 replace S6:=zH (S6.out.kept hkz zac)
 replace Nx:=zH (fun u hu=>NodeA.kept hkz (fun h=>h.2 rfl) _ _ (Nx.out u hu))
 replace Ny:=zH (fun u hu=>NodeA.kept hkz (fun h=>h.2 rfl) _ _ (Ny.out u hu))
 replace HZ:=zH (fun m hm=>NodeA.kept hkz (fun h=>h.2 rfl) _ _ (HZ.out m hm))
 replace hS:Hid (B10 ((((((((((VF.setCell ⟨blz,0,none⟩ (zI zL op)).setCell ⟨blz,1,none⟩ (zI zL at0)).setCell ⟨blz,2,none⟩ (.string ⟨#[]⟩)).setCell ⟨blz,3,none⟩ (zI zL 0)).setCell ⟨blz,4,none⟩ (zI zL 0)).setCell ⟨blz,5,none⟩ (.bool false)).setCell ⟨blz,6,none⟩ (zI zL 0)).setCell ⟨blz,7,none⟩ (zI zL 0)).setCell ⟨blz,8,none⟩ (zI zL 0)).setCell ⟨blz,9,none⟩ (.slice (some ⟨sl,0,none⟩) 2 2)) blx (zI zL xo) (zI zL xa) (.string xs) (zI zL xn) (zI zL xd) (.bool xf) (zI zL xm) (zI zL xr) (zI zL xy) (.slice xq xk xc)/\B10 ((((((((((VF.setCell ⟨blz,0,none⟩ (zI zL op)).setCell ⟨blz,1,none⟩ (zI zL at0)).setCell ⟨blz,2,none⟩ (.string ⟨#[]⟩)).setCell ⟨blz,3,none⟩ (zI zL 0)).setCell ⟨blz,4,none⟩ (zI zL 0)).setCell ⟨blz,5,none⟩ (.bool false)).setCell ⟨blz,6,none⟩ (zI zL 0)).setCell ⟨blz,7,none⟩ (zI zL 0)).setCell ⟨blz,8,none⟩ (zI zL 0)).setCell ⟨blz,9,none⟩ (.slice (some ⟨sl,0,none⟩) 2 2)) bly (zI zL yo) (zI zL ya) (.string ys) (zI zL yn) (zI zL yd) (.bool yf) (zI zL ym) (zI zL yr) (zI zL yy) (.slice yq yk yc)/\((((((((((VF.setCell ⟨blz,0,none⟩ (zI zL op)).setCell ⟨blz,1,none⟩ (zI zL at0)).setCell ⟨blz,2,none⟩ (.string ⟨#[]⟩)).setCell ⟨blz,3,none⟩ (zI zL 0)).setCell ⟨blz,4,none⟩ (zI zL 0)).setCell ⟨blz,5,none⟩ (.bool false)).setCell ⟨blz,6,none⟩ (zI zL 0)).setCell ⟨blz,7,none⟩ (zI zL 0)).setCell ⟨blz,8,none⟩ (zI zL 0)).setCell ⟨blz,9,none⟩ (.slice (some ⟨sl,0,none⟩) 2 2)).cell? ⟨b6,j,none⟩=some (zI zL op)):=⟨Xx.out,Xy.out,HC.out _ S6.out⟩
 clear hkz
 generalize ((((((((((VF.setCell ⟨blz,0,none⟩ (zI zL op)).setCell ⟨blz,1,none⟩ (zI zL at0)).setCell ⟨blz,2,none⟩ (.string ⟨#[]⟩)).setCell ⟨blz,3,none⟩ (zI zL 0)).setCell ⟨blz,4,none⟩ (zI zL 0)).setCell ⟨blz,5,none⟩ (.bool false)).setCell ⟨blz,6,none⟩ (zI zL 0)).setCell ⟨blz,7,none⟩ (zI zL 0)).setCell ⟨blz,8,none⟩ (zI zL 0)).setCell ⟨blz,9,none⟩ (.slice (some ⟨sl,0,none⟩) 2 2))=VG at *
 refine hK.out _ _ ?_ (fun hHeld=>?_)
 ·exact hS
 clear hK K
 try simp only[Act.put,zA,zB,zC]
 refine wpAnyH_done zab ?_ _
 clear hS
 by_cases hjn:3<j
 ·have hj3:(3:Int)<(j:Int):=by omega
  simp only[if_pos hjn] at HR2
  obtain⟨z0,z1,z2,z3,z4,z5,z6,z7,z8,z9,m0,m1,m2,m3,m4,m5,m6,m7,m8,m9⟩:=Xz.out
  obtain⟨x0,x1,x2,x3,x4,x5,x6,x7,x8,x9,y0,y1,y2,y3,y4,y5,y6,y7,y8,y9⟩:=Xx.out
  obtain⟨n0,n1,n2,n3,n4,n5,n6,n7,n8,n9,-,-,-,-,-,-,-,-,-,-⟩:=Xy.out
  have lz:=World.block_lt_of_cell? _ _ z0
  have lx:=World.block_lt_of_cell? _ _ x0
  obtain⟨c0,c1,c2,c3,c4,f0,f1,f2,f3,f4⟩:=F.out.A
  have lc:=World.block_lt_of_cell? _ _ c0
  simp only at lz lx lc
  go_wp2_with fail
  have hk1:=(Kept.refl blz VG).setCell 9 none (.slice (some ⟨VG.heap.size,0,none⟩) 2 2)
  have hk2:=Kept.set10 (Kept.refl blx (VG.setCell ⟨blz,9,none⟩ (.slice (some ⟨VG.heap.size,0,none⟩) 2 2))) (zI zL op) (zI zL at0) (.string ⟨#[]⟩) (zI zL 0) (zI zL 0) (.bool false) (zI zL 0) (zI zL 0) (zI zL 0) (.slice (some ⟨VG.heap.size,0,none⟩) 2 2)
  replace F:=zH ((F.out.kept hk1 zac).kept hk2 zac)
  replace S5:=zH ((S5.out.kept hk1 zac).kept hk2 zac)
  replace S6:=zH ((S6.out.kept hk1 zac).kept hk2 zac)
  replace Nx:=zH (fun u hu=>NodeA.kept hk2 (fun h=>h.1.2 rfl) _ _ (NodeA.kept hk1 (fun h=>h.2 rfl) _ _ (Nx.out u hu)))
  replace Ny:=zH (fun u hu=>NodeA.kept hk2 (fun h=>h.1.2 rfl) _ _ (NodeA.kept hk1 (fun h=>h.2 rfl) _ _ (Ny.out u hu)))
  replace Xx:=zH ((Xx.out.kept hk1 zac).put (zI zL op) (zI zL at0) (.string ⟨#[]⟩) (zI zL 0) (zI zL 0) (.bool false) (zI zL 0) (zI zL 0) (zI zL 0) (.slice (some ⟨VG.heap.size,0,none⟩) 2 2))
  have hsz:((((((((((((VG.setCell ⟨blz,9,none⟩ (.slice (some ⟨VG.heap.size,0,none⟩) 2 2)).setCell ⟨blx,0,none⟩ (zI zL op)).setCell ⟨blx,1,none⟩ (zI zL at0)).setCell ⟨blx,2,none⟩ (.string ⟨#[]⟩)).setCell ⟨blx,3,none⟩ (zI zL 0)).setCell ⟨blx,4,none⟩ (zI zL 0)).setCell ⟨blx,5,none⟩ (.bool false)).setCell ⟨blx,6,none⟩ (zI zL 0)).setCell ⟨blx,7,none⟩ (zI zL 0)).setCell ⟨blx,8,none⟩ (zI zL 0)).setCell ⟨blx,9,none⟩ (.slice (some ⟨VG.heap.size,0,none⟩) 2 2))).heap.size=VG.heap.size:=zbb
  clear hk1 hk2 HZ Xy Xz z0 z1 z2 z3 z4 z5 z6 z7 z8 z9 m0 m1 m2 m3 m4 m5 m6 m7 m8 m9 x0 x1 x2 x3 x4 x5 x6 x7 x8 x9 y0 y1 y2 y3 y4 y5 y6 y7 y8 y9 n0 n1 n2 n3 n4 n5 n6 n7 n8 n9 c0 c1 c2 c3 c4 f0 f1 f2 f3 f4
  generalize (((((((((((VG.setCell ⟨blz,9,none⟩ (.slice (some ⟨VG.heap.size,0,none⟩) 2 2)).setCell ⟨blx,0,none⟩ (zI zL op)).setCell ⟨blx,1,none⟩ (zI zL at0)).setCell ⟨blx,2,none⟩ (.string ⟨#[]⟩)).setCell ⟨blx,3,none⟩ (zI zL 0)).setCell ⟨blx,4,none⟩ (zI zL 0)).setCell ⟨blx,5,none⟩ (.bool false)).setCell ⟨blx,6,none⟩ (zI zL 0)).setCell ⟨blx,7,none⟩ (zI zL 0)).setCell ⟨blx,8,none⟩ (zI zL 0)).setCell ⟨blx,9,none⟩ (.slice (some ⟨VG.heap.size,0,none⟩) 2 2))=VX at *
  have hb:=(Below.refl VX.heap.size VX).alloc (Nat.le_refl _) (.cells #[zI zL yo,zI zL ya,.string ys,zI zL yn,zI zL yd,.bool yf,zI zL ym,zI zL yr,zI zL yy,.slice yq yk yc,zI zL xo,zI zL xa,.string xs,zI zL xn,zI zL xd,.bool xf,zI zL xm,zI zL xr,zI zL xy,.slice xq xk xc] 36)
  have hh:=heap_alloc_new VX (.cells #[zI zL yo,zI zL ya,.string ys,zI zL yn,zI zL yd,.bool yf,zI zL ym,zI zL yr,zI zL yy,.slice yq yk yc,zI zL xo,zI zL xa,.string xs,zI zL xn,zI zL xd,.bool xf,zI zL xm,zI zL xr,zI zL xy,.slice xq xk xc] 36)
  rw[hsz] at hh
  have HZ:Hid (∀m,t2=some m->NodeA (VX.alloc (.cells #[zI zL yo,zI zL ya,.string ys,zI zL yn,zI zL yd,.bool yf,zI zL ym,zI zL yr,zI zL yy,.slice yq yk yc,zI zL xo,zI zL xa,.string xs,zI zL xn,zI zL xd,.bool xf,zI zL xm,zI zL xr,zI zL xy,.slice xq xk xc] 36)) (fun j=>(w.heap.size+2<j/\j≠blx)/\j≠blz) (ag ts En) (.mk op (n-k) [] 0 0 1 [m,u0]) ⟨op,at0,⟨#[]⟩,0,0,false,0,0,0,some ⟨VG.heap.size,0,none⟩,2,2⟩):=fun m hm=>by
   rw[HAT.out]
   refine dX (T:=36) [m,u0] [⟨yo,ya,ys,yn,yd,yf,ym,yr,yy,yq,yk,yc⟩,⟨xo,xa,xs,xn,xd,xf,xm,xr,xy,xq,xk,xc⟩] op (n-k) 2 rfl ⟨⟨zac,zac⟩,zac⟩ (fun i h h'=>match i,h with
    | 0,_=>NodeA.bel hb _ _ (Ny.out m hm)
    | 1,_=>NodeA.bel hb _ _ (Nx.out u0 rfl)) hh
  replace F:=zH (F.out.bel hb)
  replace Xx:=zH (Xx.out.bel hb)
  replace S5:=zH (S5.out.bel hb)
  replace S6:=zH (S6.out.bel hb)
  clear hb hh hsz Nx Ny lz lx lc
  generalize VX.alloc (.cells #[zI zL yo,zI zL ya,.string ys,zI zL yn,zI zL yd,.bool yf,zI zL ym,zI zL yr,zI zL yy,.slice yq yk yc,zI zL xo,zI zL xa,.string xs,zI zL xn,zI zL xd,.bool xf,zI zL xm,zI zL xr,zI zL xy,.slice xq xk xc] 36)=VH at *
  generalize VG.heap.size=slt at *
  refine(KW.out ⟨k2,E2,O2⟩ _ _ _ _ (HS.out.bel F.out.B) S5.out).mono ?_
  rintro _ v9 ⟨rfl,hb⟩
  replace F:=zH (F.out.bel hb)
  replace Xx:=zH (Xx.out.bel hb)
  replace S5:=zH (S5.out.bel hb)
  replace S6:=zH (S6.out.bel hb)
  replace HZ:=zH (fun m hm=>NodeA.bel hb _ _ (HZ.out m hm))
  clear hb
  go_wp2_with fail
  go_roundg (n-k2)
  case measure=>omega
  case rel =>
   refine⟨k2,E2,O2,t2.map fun m=> .mk op (n-k) [] 0 0 1 [m,u0],_,⟨op,at0,⟨#[]⟩,0,0,false,0,0,0,some ⟨slt,0,none⟩,2,2⟩,rfl,Nat.le_refl _,zac,zac,F,Xx,fun u hu=>?_,S5,S6,HR2⟩
   obtain⟨m,hm,rfl⟩:=Option.map_eq_some_iff.1 hu
   exact NodeA.keep (Nat.le_refl _) (fun _ _ _=>rfl) (fun j h _=>h.1) _ _ (HZ.out m hm)
 ·have hj3:¬(3:Int)<(j:Int):=by omega
  simp only[if_neg hjn] at HR2
  obtain⟨z0,z1,z2,z3,z4,z5,z6,z7,z8,z9,m0,m1,m2,m3,m4,m5,m6,m7,m8,m9⟩:=Xz.out
  obtain⟨x0,x1,x2,x3,x4,x5,x6,x7,x8,x9,y0,y1,y2,y3,y4,y5,y6,y7,y8,y9⟩:=Xx.out
  obtain⟨c0,c1,c2,c3,c4,f0,f1,f2,f3,f4⟩:=F.out.A
  go_wp2_with fail
  have hkx:=Kept.set10 (Kept.refl blx VG) (zI zL op) (zI zL at0) (.string ⟨#[]⟩) (zI zL 0) (zI zL 0) (.bool false) (zI zL 0) (zI zL 0) (zI zL 0) (.slice (some ⟨sl,0,none⟩) 2 2)
  replace F:=zH (F.out.kept hkx zac)
  replace S5:=zH (S5.out.kept hkx zac)
  replace S6:=zH (S6.out.kept hkx zac)
  replace HZ:=zH (fun m hm=>NodeA.kept hkx (fun h=>h.1.2 rfl) _ _ (HZ.out m hm))
  replace Xx:=zH (Xx.out.put (zI zL op) (zI zL at0) (.string ⟨#[]⟩) (zI zL 0) (zI zL 0) (.bool false) (zI zL 0) (zI zL 0) (zI zL 0) (.slice (some ⟨sl,0,none⟩) 2 2))
  clear hkx Xy Xz Nx Ny z0 z1 z2 z3 z4 z5 z6 z7 z8 z9 m0 m1 m2 m3 m4 m5 m6 m7 m8 m9 x0 x1 x2 x3 x4 x5 x6 x7 x8 x9 y0 y1 y2 y3 y4 y5 y6 y7 y8 y9 c0 c1 c2 c3 c4 f0 f1 f2 f3 f4
  generalize ((((((((((VG.setCell ⟨blx,0,none⟩ (zI zL op)).setCell ⟨blx,1,none⟩ (zI zL at0)).setCell ⟨blx,2,none⟩ (.string ⟨#[]⟩)).setCell ⟨blx,3,none⟩ (zI zL 0)).setCell ⟨blx,4,none⟩ (zI zL 0)).setCell ⟨blx,5,none⟩ (.bool false)).setCell ⟨blx,6,none⟩ (zI zL 0)).setCell ⟨blx,7,none⟩ (zI zL 0)).setCell ⟨blx,8,none⟩ (zI zL 0)).setCell ⟨blx,9,none⟩ (.slice (some ⟨sl,0,none⟩) 2 2))=VH at *
  refine(KW.out ⟨k2,E2,O2⟩ _ _ _ _ (HS.out.bel F.out.B) S5.out).mono ?_
  rintro _ v9 ⟨rfl,hb⟩
  replace F:=zH (F.out.bel hb)
  replace Xx:=zH (Xx.out.bel hb)
  replace S5:=zH (S5.out.bel hb)
  replace S6:=zH (S6.out.bel hb)
  replace HZ:=zH (fun m hm=>NodeA.bel hb _ _ (HZ.out m hm))
  clear hb
  go_wp2_with fail
  go_roundg (n-k2)
  case measure=>omega
  case rel =>
   refine⟨k2,E2,O2,t2.map fun m=> .mk op (n-k) [] 0 0 1 [u0,m],_,⟨op,at0,⟨#[]⟩,0,0,false,0,0,0,some ⟨sl,0,none⟩,2,2⟩,rfl,Nat.le_refl _,zac,zac,F,Xx,fun u hu=>?_,S5,S6,HR2⟩
   obtain⟨m,hm,rfl⟩:=Option.map_eq_some_iff.1 hu
   exact NodeA.keep (Nat.le_refl _) (fun _ _ _=>rfl) (fun j h _=>h.1) _ _ (HZ.out m hm)):P:=h
theorem zz4{P:Prop}(h:P:=by
 rw[<-hA] at KE
 clear h1 s1 bd C1 N1 hA
 go_enter Tryz.func7,Tryz.ntmps7
 go_wp2_with fail
 rw[<-hW]
 clear hW
 refine KE.out.mono ?_
 rintro _ v ⟨rfl,v2,hb,hk2⟩
 have hs2:=hb.size
 have hs3:=hk2.size
 have NB:=zH ((N0.out.bel hb).of (hk2.block (w.heap.size+2) zac zac))
 have RB:=zH ((R0.out.bel hb).of (hk2.block (w.heap.size+1) zac zac))
 have HBv:Hid (RowKit.Below w.heap.size w v):=(HBW.out.trans (hb.mono zac)).trans (hk2.below (B:=w.heap.size) zac zac)
 have DB:=zH (At2.new v (zI zL AA) (zI zL E) 53)
 have bl:=(Below.refl v.heap.size v).alloc (Nat.le_refl _) (.cells #[zI zL AA,zI zL E] 53)
 replace NB:=zH (NB.out.bel bl)
 replace RB:=zH (RB.out.bel bl)
 replace HBv:=zH (HBv.out.trans (bl.mono zac))
 clear hb hk2 bl R0 N0 C0 D0 KE HBW
 go_wp2_with fail
 generalize v.alloc (.cells #[zI zL AA,zI zL E] 53)=V at *
 generalize v.heap.size=db at *
 have hS:V.drew.cell? ⟨w.heap.size+1+1,0,none⟩=some (zI zL 0)/\V.drew.cell? ⟨w.heap.size+1+1,1,none⟩=some (zI zL 0)/\V.drew.cell? ⟨w.heap.size+1+1,2,none⟩=some (.string ⟨#[]⟩)/\V.drew.cell? ⟨w.heap.size+1+1,3,none⟩=some (zI zL 0)/\V.drew.cell? ⟨w.heap.size+1+1,4,none⟩=some (zI zL 0)/\V.drew.cell? ⟨w.heap.size+1+1,5,none⟩=some (.bool false)/\V.drew.cell? ⟨w.heap.size+1+1,6,none⟩=some (zI zL 0)/\V.drew.cell? ⟨w.heap.size+1+1,7,none⟩=some (zI zL 0)/\V.drew.cell? ⟨w.heap.size+1+1,8,none⟩=some (zI zL 0)/\V.drew.cell? ⟨w.heap.size+1+1,9,none⟩=some (.slice none 0 0)/\V.drew.cell? ⟨db,0,none⟩=some (zI zL AA)/\V.drew.cell? ⟨db,1,none⟩=some (zI zL E):=⟨NB.out.c0,NB.out.c1,NB.out.c2,NB.out.c3,NB.out.c4,NB.out.c5,NB.out.c6,NB.out.c7,NB.out.c8,NB.out.c9,DB.out.c0,DB.out.c1⟩
 refine wp_region_held (S:=fun w':World=>w'.cell? ⟨w.heap.size+1+1,0,none⟩=some (zI zL 0)/\w'.cell? ⟨w.heap.size+1+1,1,none⟩=some (zI zL 0)/\w'.cell? ⟨w.heap.size+1+1,2,none⟩=some (.string ⟨#[]⟩)/\w'.cell? ⟨w.heap.size+1+1,3,none⟩=some (zI zL 0)/\w'.cell? ⟨w.heap.size+1+1,4,none⟩=some (zI zL 0)/\w'.cell? ⟨w.heap.size+1+1,5,none⟩=some (.bool false)/\w'.cell? ⟨w.heap.size+1+1,6,none⟩=some (zI zL 0)/\w'.cell? ⟨w.heap.size+1+1,7,none⟩=some (zI zL 0)/\w'.cell? ⟨w.heap.size+1+1,8,none⟩=some (zI zL 0)/\w'.cell? ⟨w.heap.size+1+1,9,none⟩=some (.slice none 0 0)/\w'.cell? ⟨db,0,none⟩=some (zI zL AA)/\w'.cell? ⟨db,1,none⟩=some (zI zL E)) mixed ?_
 change wpAnyH _ _ _ _ _ _ _ _ V.drew
 refine tk0 (v:=?_) zab zab zab (fun _ _ _ h=>h) (Or.inl ⟨by rfl,?_⟩) hS ?_
 rotate_left
 ·(intro w hSw;(try dsimp only at hSw);go_simp;try with_reducible rfl)
 simp only[Act.put,zA,zB,zC]
 refine tk1 (v:=?_) zab zab zab (fun _ _ _ h=>h) (Or.inl ⟨by rfl,?_⟩) hS ?_
 rotate_left
 ·(intro w hSw;(try dsimp only at hSw);go_simp;try with_reducible rfl)
 simp only[Act.put,zA,zB,zC]
 refine tk2 (v:=?_) zab zab zab (fun _ _ _ h=>h) (Or.inl ⟨by rfl,?_⟩) hS ?_
 rotate_left
 ·(intro w hSw;(try dsimp only at hSw);go_simp;try with_reducible rfl)
 simp only[Act.put,zA,zB,zC]
 refine tk3 (v:=?_) zab zab zab (fun _ _ _ h=>h) (Or.inl ⟨by rfl,?_⟩) hS ?_
 rotate_left
 ·(intro w hSw;(try dsimp only at hSw);go_simp;try with_reducible rfl)
 simp only[Act.put,zA,zB,zC]
 refine tk4 (v:=?_) zab zab zab (fun _ _ _ h=>h) (Or.inl ⟨by rfl,?_⟩) hS ?_
 rotate_left
 ·(intro w hSw;(try dsimp only at hSw);go_simp;try with_reducible rfl)
 simp only[Act.put,zA,zB,zC]
 have hdr:=(Below.refl V.heap.size V).drew
 replace NB:=zH (NB.out.bel hdr)
 replace DB:=zH (DB.out.bel hdr)
 replace RB:=zH (RB.out.bel hdr)
 replace HBv:=zH (HBv.out.drew)
 generalize V.drew=V at *
 obtain⟨r0,r1,r2,r3,r4,r5,r6,r7,r8,r9,q0,q1,q2,q3,q4,q5,q6,q7,q8,q9⟩:=RB.out
 have ND:db≠w.heap.size+1:=zac
 have NN:w.heap.size+2≠w.heap.size+1:=zac
 refine wpAnyH_ready (rs:=[5]) zab (by simp) (st5 (fun K hK=>?_) AllReadyH.nil)
 go_simp
 have NT:=zH ((((((((((NB.out.other NN 0 none (zI zL 0)).other NN 1 none (zI zL 0)).other NN 2 none (.string ⟨#[]⟩)).other NN 3 none (zI zL 0)).other NN 4 none (zI zL 0)).other NN 5 none (.bool false)).other NN 6 none (zI zL 0)).other NN 7 none (zI zL 0)).other NN 8 none (zI zL 0)).other NN 9 none (.slice none 0 0))
 have DT:=zH ((((((((((DB.out.other ND 0 (zI zL 0)).other ND 1 (zI zL 0)).other ND 2 (.string ⟨#[]⟩)).other ND 3 (zI zL 0)).other ND 4 (zI zL 0)).other ND 5 (.bool false)).other ND 6 (zI zL 0)).other ND 7 (zI zL 0)).other ND 8 (zI zL 0)).other ND 9 (.slice none 0 0))
 refine hK.out _ _ ?_ (fun hHeld=>?_)
 ·exact⟨NT.out.c0,NT.out.c1,NT.out.c2,NT.out.c3,NT.out.c4,NT.out.c5,NT.out.c6,NT.out.c7,NT.out.c8,NT.out.c9,DT.out.c0,DT.out.c1⟩
 clear hK K
 try simp only[Act.put,zA,zB,zC]
 refine wpAnyH_ready (rs:=[6]) zab (by simp) (st6 (fun K hK=>?_) AllReadyH.nil)
 go_simp
 refine hK.out _ _ ?_ (fun hHeld=>?_)
 ·exact⟨NT.out.c0,NT.out.c1,NT.out.c2,NT.out.c3,NT.out.c4,NT.out.c5,NT.out.c6,NT.out.c7,NT.out.c8,NT.out.c9,DT.out.c0,DT.out.c1⟩
 clear hK K
 try simp only[Act.put,zA,zB,zC]
 refine wpAnyH_ready (rs:=[7]) zab (by simp) (st7 (fun K hK=>?_) AllReadyH.nil)
 go_simp
 refine hK.out _ _ ?_ (fun hHeld=>?_)
 ·exact⟨NT.out.c0,NT.out.c1,NT.out.c2,NT.out.c3,NT.out.c4,NT.out.c5,NT.out.c6,NT.out.c7,NT.out.c8,NT.out.c9,DT.out.c0,DT.out.c1⟩
 clear hK K
 try simp only[Act.put,zA,zB,zC]
 refine wpAnyH_done zab ?_ _
 go_wp2_with fail
 refine(?_:∀G:World,B10 G (w.heap.size+1) (zI zL 0) (zI zL 0) (.string ⟨#[]⟩) (zI zL 0) (zI zL 0) (.bool false) (zI zL 0) (zI zL 0) (zI zL 0) (.slice none 0 0)->RowKit.Below w.heap.size w G->bodyPost _ _ _ _ _ G) _ (RB.out.put _ _ _ _ _ _ _ _ _ _) ?_
 ·intro G hG hB
  obtain⟨y0,y1,y2,y3,y4,y5,y6,y7,y8,y9,-,-,-,-,-,-,-,-,-,-⟩:=hG
  exact bodyPost_ret (v:= .tuple #[.agg #[zI zL 0,zI zL 0,.string ⟨#[]⟩,zI zL 0,zI zL 0,.bool false,zI zL 0,zI zL 0,zI zL 0,.slice none 0 0],zI zL E,zI zL AA]) (by simp[results,Tryz.results7,go_sem,y0,y1,y2,y3,y4,y5,y6,y7,y8,y9]) rfl ⟨rfl,hB⟩
 ·exact((((((((((HBv.out.setCell (p:=⟨w.heap.size+1,0,none⟩) zau _).setCell (p:=⟨w.heap.size+1,1,none⟩) zau _).setCell (p:=⟨w.heap.size+1,2,none⟩) zau _).setCell (p:=⟨w.heap.size+1,3,none⟩) zau _).setCell (p:=⟨w.heap.size+1,4,none⟩) zau _).setCell (p:=⟨w.heap.size+1,5,none⟩) zau _).setCell (p:=⟨w.heap.size+1,6,none⟩) zau _).setCell (p:=⟨w.heap.size+1,7,none⟩) zau _).setCell (p:=⟨w.heap.size+1,8,none⟩) zau _).setCell (p:=⟨w.heap.size+1,9,none⟩) zau _)):P:=h
theorem zz5{P:Prop}(h:P:=by
 obtain⟨z0,z1,z2,z3,z4,z5,z6,z7,z8,z9,m0,m1,m2,m3,m4,m5,m6,m7,m8,m9⟩:=Xz.out
 obtain⟨x0,x1,x2,x3,x4,x5,x6,x7,x8,x9,y0,y1,y2,y3,y4,y5,y6,y7,y8,y9⟩:=Xx.out
 obtain⟨c0,c1,c2,c3,c4,f0,f1,f2,f3,f4⟩:=F.out.A
 go_wp2_with fail
 have hkx:=Kept.set10 (Kept.refl blx VG) (zI zL op) (zI zL at0) (.string ⟨#[]⟩) (zI zL 0) (zI zL 0) (.bool false) (zI zL 0) (zI zL 0) (zI zL 0) (.slice (some ⟨sl,0,none⟩) 2 2)
 replace F:=zH (F.out.kept hkx zac)
 replace S5:=zH (S5.out.kept hkx zac)
 replace S6:=zH (S6.out.kept hkx zac)
 replace HZ:=zH (fun m hm=>NodeA.kept hkx (fun h=>h.1.2 rfl) _ _ (HZ.out m hm))
 replace Xx:=zH (Xx.out.put (zI zL op) (zI zL at0) (.string ⟨#[]⟩) (zI zL 0) (zI zL 0) (.bool false) (zI zL 0) (zI zL 0) (zI zL 0) (.slice (some ⟨sl,0,none⟩) 2 2))
 clear hkx Xy Xz Nx Ny z0 z1 z2 z3 z4 z5 z6 z7 z8 z9 m0 m1 m2 m3 m4 m5 m6 m7 m8 m9 x0 x1 x2 x3 x4 x5 x6 x7 x8 x9 y0 y1 y2 y3 y4 y5 y6 y7 y8 y9 c0 c1 c2 c3 c4 f0 f1 f2 f3 f4
 generalize ((((((((((VG.setCell ⟨blx,0,none⟩ (zI zL op)).setCell ⟨blx,1,none⟩ (zI zL at0)).setCell ⟨blx,2,none⟩ (.string ⟨#[]⟩)).setCell ⟨blx,3,none⟩ (zI zL 0)).setCell ⟨blx,4,none⟩ (zI zL 0)).setCell ⟨blx,5,none⟩ (.bool false)).setCell ⟨blx,6,none⟩ (zI zL 0)).setCell ⟨blx,7,none⟩ (zI zL 0)).setCell ⟨blx,8,none⟩ (zI zL 0)).setCell ⟨blx,9,none⟩ (.slice (some ⟨sl,0,none⟩) 2 2))=VH at *
 refine(KW.out ⟨k2,E2,O2⟩ _ _ _ _ (HS.out.bel F.out.B) S5.out).mono ?_
 rintro _ v9 ⟨rfl,hb⟩
 replace F:=zH (F.out.bel hb)
 replace Xx:=zH (Xx.out.bel hb)
 replace S5:=zH (S5.out.bel hb)
 replace S6:=zH (S6.out.bel hb)
 replace HZ:=zH (fun m hm=>NodeA.bel hb _ _ (HZ.out m hm))
 clear hb
 go_wp2_with fail
 go_roundg (n-k2)
 case measure=>omega
 case rel =>
  refine⟨k2,E2,O2,t2.map fun m=> .mk op (n-k) [] 0 0 1 [u0,m],_,⟨op,at0,⟨#[]⟩,0,0,false,0,0,0,some ⟨sl,0,none⟩,2,2⟩,rfl,Nat.le_refl _,zac,zac,F,Xx,fun u hu=>?_,S5,S6,HR2⟩
  obtain⟨m,hm,rfl⟩:=Option.map_eq_some_iff.1 hu
  exact NodeA.keep (Nat.le_refl _) (fun _ _ _=>rfl) (fun j h _=>h.1) _ _ (HZ.out m hm)):P:=h
theorem zz6{P:Prop}(h:P:=by
 clear i1 i2 hle hx hW hn hsz
 go_enter Tryz.func65,Tryz.ntmps65
 go_wp2_with fail
 change Code.wp _ _ _ _ (w.alloc (.cells #[zI zL 0,zI zL 0] 31))
 have A0:=zH (At2.new w (zI zL 0) (zI zL 0) 31)
 have B0:=zH ((Below.refl w.heap.size w).alloc (Nat.le_refl _) (.cells #[zI zL 0,zI zL 0] 31))
 generalize w.alloc (.cells #[zI zL 0,zI zL 0] 31)=w1 at *
 go_loopg [4] W (fun g s4 wr=>∃k:Nat,s4 = zI zL k/\k<=W/\W-k<=g/\wr=w1)
 case atStart=>exact⟨0,rfl,zac,zac,rfl⟩
 case round =>
  obtain⟨k,rfl,hk,hkg,rfl⟩:=hrel
  by_cases hlt:k<W
  ·have hks:k<s.size:=by omega
   have hltz:(k:Int)<(s.size:Int):=zac
   have KD:=zH (aZ s[k])
   rw[hget.out k hks,I1.out k hlt,<-hget.out k hks] at KD
   go_wp2_with ((with_reducible refine(KD.out _).mono ?_);rintro _ _ ⟨rfl,rfl⟩)
   go_roundg (W-(k+1))
   case measure=>omega
   case rel=>exact⟨k+1,by go_num,zac,zac,rfl⟩
  ·obtain rfl:k=W:=by omega
   clear hk hkg
   have KD:=zH (aZ s[k])
   rw[hget.out k hks,I2.out (by rw[<-HZ.out];exact hks),<-hget.out k hks] at KD
   have c0:=A0.out.c0
   have c1:=A0.out.c1
   have f0:=A0.out.f0
   have f1:=A0.out.f1
   go_wp2_with ((with_reducible refine(KD.out _).mono ?_);rintro _ _ ⟨rfl,rfl⟩)
   exact bodyPost_ret (v:= .tuple #[.agg #[zI zL 0,zI zL 0],zI zL 8]) (by simp[results,Tryz.results65,go_sem,c0,c1]) rfl ⟨by rw[HV.out],zbp⟩):P:=h
theorem zz7{P:Prop}(h:P:=by
 go_enter Tryz.func11,Tryz.ntmps11
 go_wp2_with fail
 all_goals
  go_ret
  exact⟨rfl,zaf⟩):P:=h
theorem zz8{P:Prop}(h:P:=by
 have e44:=zE s[0] 44 false zag
 have e58:=zE s[0] 58 false zag
 have e43:=zE s[0] 43 false zag
 have e45:=zE s[0] 45 false zag
 have e42:=zE s[0] 42 false zag
 have e47:=zE s[0] 47 false zag
 have e61:=zE s[0] 61 false zag
 clear HG hd hS hsz
 go_enter Tryz.func102,Tryz.ntmps102
 go_wp2_with (refine(KP.out _).mono ?_;rintro _ _ ⟨rfl,rfl⟩)
 go_ret
 exact⟨bg zbu,rfl⟩):P:=h
theorem zz9{P:Prop}(h:P:=by
 replace Z:=zH (Z.out.bel hb)
 replace B:=zH (B.out.trans (hb.mono B.out.size))
 replace X:=zH (X.out.bel hb)
 replace Y:=zH (Y.out.bel hb)
 replace Nx:=zH (ah.bel hb _ _ Nx.out)
 clear hb y0 y1 y2 y3 y4 f0 f1 f2 f3 f4 x0 x1 x2 x3 x4 x5 x6 x7 x8 x9
 obtain⟨y0,y1,y2,y3,y4,f0,f1,f2,f3,f4⟩:=Y.out
 obtain⟨x0,x1,x2,x3,x4,x5,x6,x7,x8,x9,-,-,-,-,-,-,-,-,-,-⟩:=X.out
 go_wp2_with fail
 have KF:Hid (∀w,Calls Tryz.prog 27 #[.agg #[.slice q n cap,zI zL (n:Nat),zI zL En,zI zL 0,zI zL 0],zI zL 2,zI zL xa] w fun e w'=>e = .returned (.agg #[.slice q n cap,zI zL (n:Nat),zI zL En,zI zL 2,zI zL xa])/\RowKit.Below w.heap.size w w'):=fun w=>by
  have:=bA q n cap n En 0 0 2 xa w
  rw[if_pos rfl,if_pos rfl] at this
  exact this
 refine(KF.out _).mono ?_
 rintro _ v8 ⟨rfl,hb⟩
 replace Z:=zH (Z.out.bel hb)
 replace B:=zH (B.out.trans (hb.mono B.out.size))
 replace X:=zH (X.out.bel hb)
 replace Y:=zH (Y.out.bel hb)
 clear hb y0 y1 y2 y3 y4 f0 f1 f2 f3 f4 x0 x1 x2 x3 x4 x5 x6 x7 x8 x9
 obtain⟨y0,y1,y2,y3,y4,f0,f1,f2,f3,f4⟩:=Y.out
 obtain rfl:xa=ag ts En u.pl:=HA.out _ _ Nx.out
 go_wp2_with fail
 have hk1:=Kept.set5 (Kept.refl by0 v8) (.slice q n cap) (zI zL (n:Nat)) (zI zL En) (zI zL 2) (zI zL (ag ts En u.pl))
 replace Z:=zH (Z.out.kept hk1 zac)
 replace B:=zH (B.out.trans (hk1.below zac B.out.size))
 replace X:=zH (X.out.kept hk1 zac)
 replace Y:=zH (Y.out.put (.slice q n cap) (zI zL (n:Nat)) (zI zL En) (zI zL 2) (zI zL (ag ts En u.pl)))
 clear hk1 HS y0 y1 y2 y3 y4 f0 f1 f2 f3 f4
 generalize (((((v8.setCell ⟨by0,0,none⟩ (.slice q n cap)).setCell ⟨by0,1,none⟩ (zI zL (n:Nat))).setCell ⟨by0,2,none⟩ (zI zL En)).setCell ⟨by0,3,none⟩ (zI zL 2)).setCell ⟨by0,4,none⟩ (zI zL (ag ts En u.pl)))=V6 at *
 have hS:Hid (B5 V6.drew by0 (.slice q n cap) (zI zL (n:Nat)) (zI zL En) (zI zL 2) (zI zL (ag ts En u.pl))):=Y.out.bel (Below.refl _ _).drew
 refine wp_region_held (S:=fun w':World=>Hid (B5 w' by0 (.slice q n cap) (zI zL (n:Nat)) (zI zL En) (zI zL 2) (zI zL (ag ts En u.pl)))) mixed ?_
 change wpAnyH _ _ _ _ _ _ _ _ V6.drew
 refine tk0 (v:= .agg #[zI zL 0,zI zL 0,.string ⟨#[]⟩,zI zL 0,zI zL 0,.bool false,zI zL 0,zI zL 0,zI zL 0,.slice none 0 0]) zab zab zab (fun _ _ _ h=>h) (Or.inl ⟨zab,?_⟩) hS ?_
 ·intro w' hSw
  go_simp;try with_reducible rfl
 simp only[Act.put,zA,zB,zC]
 refine tk1 (v:= .pointer (some ⟨by0,3,none⟩)) zab zab zab (fun _ _ _ h=>h) (Or.inl ⟨zab,?_⟩) hS ?_
 ·intro w' hSw
  go_simp;try with_reducible rfl
 simp only[Act.put,zA,zB,zC]
 refine tk2 (v:= zI zL 2) zab zab zab (fun _ _ _ h=>h) (Or.inl ⟨zab,?_⟩) hS ?_
 ·intro w' hSw
  obtain⟨h0,h1,h2,h3,h4,-⟩:=hSw.out
  go_simp;try with_reducible rfl
 simp only[Act.put,zA,zB,zC]
 refine tk3 (v:= .pointer (some ⟨by0,4,none⟩)) zab zab zab (fun _ _ _ h=>h) (Or.inl ⟨zab,?_⟩) hS ?_
 ·intro w' hSw
  go_simp;try with_reducible rfl
 simp only[Act.put,zA,zB,zC]
 refine tk4 (v:= zI zL (ag ts En u.pl)) zab zab zab (fun _ _ _ h=>h) (Or.inl ⟨zab,?_⟩) hS ?_
 ·intro w' hSw
  obtain⟨h0,h1,h2,h3,h4,-⟩:=hSw.out
  go_simp;try with_reducible rfl
 simp only[Act.put,zA,zB,zC]
 have hb:=(Below.refl V6.heap.size V6).drew
 replace Z:=zH (Z.out.bel hb)
 replace B:=zH (B.out.trans (hb.mono B.out.size))
 replace X:=zH (X.out.bel hb)
 replace Y:=zH (Y.out.bel hb)
 clear hb
 generalize V6.drew=VE at *
 obtain⟨n0,n1,n2,n3,n4,n5,n6,n7,n8,n9,m0,m1,m2,m3,m4,m5,m6,m7,m8,m9⟩:=Z.out
 have BV:=zH B.out
 refine wpAnyH_ready (rs:=[5]) zab (by simp) (st5 (fun K hK=>?_) AllReadyH.nil)
 go_simp
 have hk:=Kept.set10 (Kept.refl w.heap.size VE) (zI zL 0) (zI zL 0) (.string ⟨#[]⟩) (zI zL 0) (zI zL 0) (.bool false) (zI zL 0) (zI zL 0) (zI zL 0) (.slice none 0 0)
 have hS0:=hS
 replace hS:Hid (B5 _ by0 (.slice q n cap) (zI zL (n:Nat)) (zI zL En) (zI zL 2) (zI zL (ag ts En u.pl))):=hS0.out.kept hk zac
 clear hk hS0
 refine hK.out _ _ ?_ (fun hHeld=>?_)
 ·exact hS
 clear hK K
 try simp only[Act.put,zA,zB,zC]
 refine wpAnyH_ready (rs:=[6]) zab (by simp) (st6 (fun K hK=>?_) AllReadyH.nil)
 go_simp
 refine hK.out _ _ ?_ (fun hHeld=>?_)
 ·exact hS
 clear hK K
 try simp only[Act.put,zA,zB,zC]
 refine wpAnyH_ready (rs:=[7]) zab (by simp) (st7 (fun K hK=>?_) AllReadyH.nil)
 go_simp
 refine hK.out _ _ ?_ (fun hHeld=>?_)
 ·exact hS
 clear hK K
 try simp only[Act.put,zA,zB,zC]
 refine wpAnyH_done zab ?_ _
 go_wp2_with fail
 exact bodyPost_ret (v:= .tuple #[.agg #[zI zL 0,zI zL 0,.string ⟨#[]⟩,zI zL 0,zI zL 0,.bool false,zI zL 0,zI zL 0,zI zL 0,.slice none 0 0],zI zL 2,zI zL (ag ts En u.pl)]) zbk rfl ⟨rfl,zae⟩):P:=h
theorem CX{P:Prop}(h:P:=by
 have e43:=zE s[0] 43 false zad
 have e45:=zE s[0] 45 false zad
 have e42:=zE s[0] 42 false zad
 have e47:=zE s[0] 47 false zad
 have e61:=zE s[0] 61 false zad
 have l1:(1:Int)<(s.size:Int):=zac
 have l2:decide ((1:Int)<(s.size:Int))=true:=decide_eq_true l1
 have q1:((s[1].toNat:Int)==61)=false:=(HQ.out hlen).symm
 clear HG hd hS hsz HQ HL HK
 go_enter Tryz.func63,Tryz.ntmps63
 go_wp2_with fail
 go_ret
 exact⟨bg zbu,rfl⟩):P:=h
theorem Dk{P:Prop}(h:P:=by
 have e43:=zE s[0] 43 false zad
 have e45:=zE s[0] 45 false zad
 have e42:=zE s[0] 42 false zad
 have e47:=zE s[0] 47 false zad
 have e61:=zE s[0] 61 false zad
 have l1:(1:Int)<(s.size:Int):=zac
 have l2:decide ((1:Int)<(s.size:Int))=true:=decide_eq_true l1
 have q1:((s[1].toNat:Int)==61)=true:=(HQ.out hlen).symm
 clear HG hd hS hsz HQ HL HK
 go_enter Tryz.func63,Tryz.ntmps63
 go_wp2_with fail
 go_ret
 exact⟨bg zbu,rfl⟩):P:=h
theorem zz12{P:Prop}(h:P:=by
 rename World=>wq
 go_loopg [5,6,7] n (fun g s5 s6 s7 wr=>∃i:Nat,s7 = zI zL i/\s5 = zI zL (acP x k i:Nat)/\s6 = zI zL (dnP k i:Nat)/\i<=n/\n-i<=g/\Hid (∀j,j<i->j≠k->dgt (x.getD j 0)=true)/\wr=wq)
 case atStart=>exact⟨0,rfl,rfl,rfl,zac,zac,(show ∀_,_ from fun j h=> zac),rfl⟩
 case round =>
  obtain⟨i,rfl,rfl,rfl,hin,hig,HD,rfl⟩:=hrel
  by_cases hlt:i<s.size
  ·have hltz:(i:Int)<(s.size:Int):=by omega
   by_cases hip:i=k
   ·have hipz:((i:Int)==(k:Int))=true:=by simp;omega
    have HA:Hid (acP x k (i+1)=acP x k i):=by show _=_;rw[acP,if_pos hip]
    have HN2:Hid (dnP k (i+1)=dnP k i):=by show _=_;rw[dnP,if_neg zac]
    have HD2:Hid (∀j,j<i+1->j≠k->dgt (x.getD j 0)=true):=fun j a b=>HD.out j zac b
    have HP:=zH hip
    clear HD hip
    generalize acP x k i=A at *
    generalize dnP k i=D at *
    first
    | (exfalso;have:=HP.out;omega)
    | (
      go_wp2_with fail
      go_roundg (n-(i+1))
      case measure=>have:=HN.out;omega
      case rel=>exact⟨i+1,by go_num,by rw[HA.out],by rw[HN2.out],by have:=HN.out;omega,zac,HD2,rfl⟩)
   ·have hipz:((i:Int)==(k:Int))=false:=by simp;omega
    have KE:=zH (aZ s[i])
    have hgi:=hget.out i hlt
    cases hd:dgt (x.getD i 0) with
    | false =>
     rw[hgi,hd,<-hgi] at KE
     have HV:Hid (bN x=(0,0,8)):=by
      show _=_
      unfold bN
      rw[if_neg (fun hf=>by have:=G1.out.1 hf i hlt hip;rw[hd] at this;cases this)]
     clear hd hgi HD
     generalize acP x k i=A at *
     generalize dnP k i=D at *
     have c0:=A0.out.c0
     have c1:=A0.out.c1
     have f0:=A0.out.f0
     have f1:=A0.out.f1
     go_wp2_with ((with_reducible refine(KE.out _).mono ?_);rintro _ _ ⟨rfl,rfl⟩)
     exact bodyPost_ret (v:= .tuple #[.agg #[zI zL 0,zI zL 0],zI zL 8]) (by simp[results,Tryz.results65,go_sem,c0,c1]) rfl ⟨by rw[HV.out],zbp⟩
    | true =>
     rw[hgi,hd,<-hgi] at KE
     have hcd:48<=s[i].toNat/\s[i].toNat<=57:=by have:=hd;rw[<-hgi] at this;unfold dgt at this;simpa using this
     have HA:Hid (acP x k (i+1)=10*acP x k i+(s[i].toNat-48)):=by show _=_;rw[acP,if_neg hip,hgi]
     have HD2:Hid (∀j,j<i+1->j≠k->dgt (x.getD j 0)=true):=fun j a b=>by
      by_cases e:j=i
      ·rw[e];exact hd
      ·exact HD.out j zac b
     have t1:=T1.out i zac
     have t2:=T2.out i zac
     obtain⟨hc1,hc2⟩:=hcd
     by_cases hki:k<i
     ·have hkiz:decide ((k:Int)<(i:Int))=true:=decide_eq_true zac
      have HN2:Hid (dnP k (i+1)=10*dnP k i):=by show _=_;rw[dnP,if_pos hki]
      clear hd hgi HD
      generalize acP x k i=A at *
      generalize dnP k i=D at *
      first
      | (exfalso;omega)
      | (
        go_wp2_with ((with_reducible refine(KE.out _).mono ?_);rintro _ _ ⟨rfl,rfl⟩)
        go_roundg (n-(i+1))
        case measure=>have:=HN.out;omega
        case rel=>exact⟨i+1,by go_num,by rw[HA.out];congr 1;omega,by rw[HN2.out];congr 1,by have:=HN.out;omega,zac,HD2,rfl⟩)
     ·have hkiz:decide ((k:Int)<(i:Int))=false:=decide_eq_false zac
      have HN2:Hid (dnP k (i+1)=dnP k i):=by show _=_;rw[dnP,if_neg hki]
      clear hd hgi HD
      generalize acP x k i=A at *
      generalize dnP k i=D at *
      go_wp2_with ((with_reducible refine(KE.out _).mono ?_);rintro _ _ ⟨rfl,rfl⟩)
      go_roundg (n-(i+1))
      case measure=>have:=HN.out;omega
      case rel=>exact⟨i+1,by go_num,by rw[HA.out];congr 1;omega,by rw[HN2.out],by have:=HN.out;omega,zac,HD2,rfl⟩
  ·have hltz:¬(i:Int)<(s.size:Int):=by omega
   have hie:i=s.size:=by have:=HN.out;omega
   have t1:=T1.out i zac
   have t2:=T2.out i zac
   have KM:Hid (∀w:World,Calls Tryz.prog 81 #[zI zL (acP x k i:Nat),zI zL (dnP k i:Nat)] w fun e w'=>e = .returned (.tuple #[.agg #[zI zL (bN x).1,zI zL (bN x).2.1],zI zL (bN x).2.2])/\RowKit.Below w.heap.size w w'):=fun w=>by
    have hf:frm x=true:=G1.out.2 fun j a b=>HD.out j zac b
    have:=eu (acP x k i:Nat) (dnP k i:Nat) w zac zac zac zac
    have e:mk (acP x k i:Nat) (dnP k i:Nat)=bN x:=by
     unfold bN
     rw[if_pos hf,<-G2.out hf,hie]
    rw[e] at this
    exact this
   generalize acP x k i=A at *
   generalize dnP k i=D at *
   clear HD hie
   go_wp2_with fail
   refine(KM.out _).mono ?_
   rintro _ w5 ⟨rfl,hb5⟩
   have A5:=zH (A0.out.bel hb5)
   have B5:=zH (B0.out.trans (hb5.mono B0.out.size))
   have L5:=A5.out.lt
   have c0:=A5.out.c0
   have c1:=A5.out.c1
   have f0:=A5.out.f0
   have f1:=A5.out.f1
   have hz5:=B5.out.size
   clear hb5
   go_wp2_with fail
   exact bodyPost_ret (v:= .tuple #[.agg #[zI zL (bN x).1,zI zL (bN x).2.1],zI zL (bN x).2.2]) (by simp[results,Tryz.results65,go_sem,c0,c1,aW,L5]) rfl ⟨rfl,(by repeat' (first|(with_reducible exact B5.out)|(with_reducible refine Below.setCell ?_ ?_ _)|(with_reducible refine Below.alloc ?_ ?_ _)|(with_reducible refine Below.drew ?_)|(with_reducible refine below_drewN ?_ _)|(with_reducible exact Below.refl _ _)|omega|(simp;done)|(simp;omega)))⟩):P:=h
theorem zz13{P:Prop}(h:P:=by
 have e43:=zE s[0] 43 false zag
 have e45:=zE s[0] 45 false zag
 have e42:=zE s[0] 42 false zag
 have e47:=zE s[0] 47 false zag
 have e61:=zE s[0] 61 false zag
 clear HG hd hS hsz
 go_enter Tryz.func102,Tryz.ntmps102
 go_wp2_with (refine(KP.out _).mono ?_;rintro _ _ ⟨rfl,rfl⟩)
 go_ret
 exact⟨bg zbu,rfl⟩):P:=h
theorem zz14{P:Prop}(h:P:=by
 have e42:=zE s[0] 42 false zad
 have e47:=zE s[0] 47 false zad
 have e61:=zE s[0] 61 false zad
 have l1:(1:Int)<(s.size:Int):=zac
 have l2:decide ((1:Int)<(s.size:Int))=true:=decide_eq_true l1
 have q1:((s[1].toNat:Int)==61)=false:=(HQ.out hlen).symm
 clear HG hd hS hsz HQ HL HK
 go_enter Tryz.func63,Tryz.ntmps63
 go_wp2_with fail
 go_ret
 exact⟨bg zbu,rfl⟩):P:=h
theorem zz15{P:Prop}(h:P:=by
 have e42:=zE s[0] 42 false zad
 have e47:=zE s[0] 47 false zad
 have e61:=zE s[0] 61 false zad
 have l1:(1:Int)<(s.size:Int):=zac
 have l2:decide ((1:Int)<(s.size:Int))=true:=decide_eq_true l1
 have q1:((s[1].toNat:Int)==61)=true:=(HQ.out hlen).symm
 clear HG hd hS hsz HQ HL HK
 go_enter Tryz.func63,Tryz.ntmps63
 go_wp2_with fail
 go_ret
 exact⟨bg zbu,rfl⟩):P:=h
theorem Dh{P:Prop}(h:P:=by
 have e43:=zE s[0] 43 false zad
 have e45:=zE s[0] 45 false zad
 have e42:=zE s[0] 42 false zad
 have e47:=zE s[0] 47 false zad
 have e61:=zE s[0] 61 false zad
 have l1:¬(1:Int)<(s.size:Int):=zac
 have l2:decide ((1:Int)<(s.size:Int))=false:=decide_eq_false l1
 clear HG hd hS hsz HQ HL HK
 go_enter Tryz.func63,Tryz.ntmps63
 go_wp2_with fail
 go_ret
 exact⟨bg zbu,rfl⟩):P:=h
theorem zz17{P:Prop}(h:P:=by
 clear HR
 obtain⟨c0,c1,c2,c3,c4,f0,f1,f2,f3,f4⟩:=F.out.A
 go_wp2_with fail
 have hS:Hid (B10 wr.drew blx (zI zL xo) (zI zL xa) (.string xs) (zI zL xn) (zI zL xd) (.bool xf) (zI zL xm) (zI zL xr) (zI zL xy) (.slice xq xk xc)/\B5 wr.drew w.heap.size (.slice p n cap) (zI zL (kk:Nat)) (zI zL En) (zI zL EE) (zI zL OO)):=⟨Xx.out.bel (Below.refl _ _).drew,F.out.A.bel (Below.refl _ _).drew⟩
 refine wp_region_held (S:=fun w':World=>Hid (B10 w' blx (zI zL xo) (zI zL xa) (.string xs) (zI zL xn) (zI zL xd) (.bool xf) (zI zL xm) (zI zL xr) (zI zL xy) (.slice xq xk xc)/\B5 w' w.heap.size (.slice p n cap) (zI zL (kk:Nat)) (zI zL En) (zI zL EE) (zI zL OO))) mixed ?_
 change wpAnyH _ _ _ _ _ _ _ _ wr.drew
 refine tk0 (v:= .agg #[zI zL xo,zI zL xa,.string xs,zI zL xn,zI zL xd,.bool xf,zI zL xm,zI zL xr,zI zL xy,.slice xq xk xc]) zab zab zab (fun _ _ _ h=>h) (Or.inl ⟨zab,?_⟩) hS ?_
 ·intro w' hSw
  exact aY rfl rfl (aS _ 10 zab zab w' blx _ rfl hSw.out.1.row)
 simp only[Act.put,zA,zB,zC]
 refine tk1 (v:= .agg #[.slice p n cap,zI zL (kk:Nat),zI zL En,zI zL EE,zI zL OO]) zab zab zab (fun _ _ _ h=>h) (Or.inl ⟨zab,?_⟩) hS ?_
 ·intro w' hSw
  exact aY rfl rfl (aS _ 5 zab zab w' w.heap.size _ rfl hSw.out.2.row)
 simp only[Act.put,zA,zB,zC]
 have hb4:=(Below.refl wr.heap.size wr).drew
 replace F:=zH (F.out.bel hb4)
 replace Nx:=zH (fun u hu=>NodeA.bel hb4 _ _ (Nx.out u hu))
 clear hb4 Xx S5 S6
 generalize wr.drew=VE at *
 obtain⟨n0,n1,n2,n3,n4,n5,n6,n7,n8,n9,m0,m1,m2,m3,m4,m5,m6,m7,m8,m9⟩:=F.out.N
 obtain⟨e0,e1,e2,e3,e4,g0,g1,g2,g3,g4⟩:=F.out.R
 have BV:=zH F.out.B
 refine wpAnyH_ready (rs:=[2]) zab (by simp) (st2 (fun K hK=>?_) AllReadyH.nil)
 go_simp
 have hk:=Kept.set10 (Kept.refl (w.heap.size+1) VE) (zI zL xo) (zI zL xa) (.string xs) (zI zL xn) (zI zL xd) (.bool xf) (zI zL xm) (zI zL xr) (zI zL xy) (.slice xq xk xc)
 have hS0:=hS
 replace hS:Hid (B10 _ blx (zI zL xo) (zI zL xa) (.string xs) (zI zL xn) (zI zL xd) (.bool xf) (zI zL xm) (zI zL xr) (zI zL xy) (.slice xq xk xc)/\B5 _ w.heap.size (.slice p n cap) (zI zL (kk:Nat)) (zI zL En) (zI zL EE) (zI zL OO)):=⟨hS0.out.1.kept hk zac,hS0.out.2.kept hk zac⟩
 clear hk hS0
 refine hK.out _ _ ?_ (fun hHeld=>?_)
 ·exact hS
 clear hK K
 try simp only[Act.put,zA,zB,zC]
 refine wpAnyH_ready (rs:=[3]) zab (by simp) (st3 (fun K hK=>?_) AllReadyH.nil)
 go_simp
 have hk:=Kept.set5 (Kept.refl (w.heap.size+2) ((((((((((VE.setCell ⟨w.heap.size+1,0,none⟩ (zI zL xo)).setCell ⟨w.heap.size+1,1,none⟩ (zI zL xa)).setCell ⟨w.heap.size+1,2,none⟩ (.string xs)).setCell ⟨w.heap.size+1,3,none⟩ (zI zL xn)).setCell ⟨w.heap.size+1,4,none⟩ (zI zL xd)).setCell ⟨w.heap.size+1,5,none⟩ (.bool xf)).setCell ⟨w.heap.size+1,6,none⟩ (zI zL xm)).setCell ⟨w.heap.size+1,7,none⟩ (zI zL xr)).setCell ⟨w.heap.size+1,8,none⟩ (zI zL xy)).setCell ⟨w.heap.size+1,9,none⟩ (.slice xq xk xc))) (.slice p n cap) (zI zL (kk:Nat)) (zI zL En) (zI zL EE) (zI zL OO)
 have hS0:=hS
 replace hS:Hid (B10 _ blx (zI zL xo) (zI zL xa) (.string xs) (zI zL xn) (zI zL xd) (.bool xf) (zI zL xm) (zI zL xr) (zI zL xy) (.slice xq xk xc)/\B5 _ w.heap.size (.slice p n cap) (zI zL (kk:Nat)) (zI zL En) (zI zL EE) (zI zL OO)):=⟨hS0.out.1.kept hk zac,hS0.out.2.kept hk zac⟩
 clear hk hS0
 refine hK.out _ _ ?_ (fun hHeld=>?_)
 ·exact hS
 clear hK K
 try simp only[Act.put,zA,zB,zC]
 refine wpAnyH_done zab ?_ _
 go_wp2_with fail
 refine bodyPost_ret (v:= .tuple #[.agg #[zI zL xo,zI zL xa,.string xs,zI zL xn,zI zL xd,.bool xf,zI zL xm,zI zL xr,zI zL xy,.slice xq xk xc],.agg #[.slice p n cap,zI zL (kk:Nat),zI zL En,zI zL EE,zI zL OO]]) zbl rfl ⟨⟨xo,xa,xs,xn,xd,xf,xm,xr,xy,xq,xk,xc⟩,rfl,fun u hu=>?_,zae⟩
 have h3:ah VE (w.heap.size+3) (ag ts En) u ⟨xo,xa,xs,xn,xd,xf,xm,xr,xy,xq,xk,xc⟩:=NodeA.keep (Nat.le_refl _) (fun _ _ _=>rfl) (fun j hj _=>hj.1) _ _ (Nx.out u hu)
 refine ah.keep (lo:=w.heap.size+3) ?_ zac _ _ h3
 repeat' (first|(with_reducible exact Kfr.refl _ _)|(with_reducible refine Kfr.set ?_ zac _ _ _))):P:=h
theorem zz18{P:Prop}(h:P:=by
 have SA:=zH ((S7.out.alloc (.cells #[.string (bs nm),.bool (uF u),zI zL (uM u),zI zL (uA u),zI zL (uD u),zI zL lo,zI zL hi,zI zL at0] 45)).drew)
 have DA:=zH (D7.out.bel (by simp) ((Below.refl v7.heap.size v7).alloc (Nat.le_refl _) (.cells #[.string (bs nm),.bool (uF u),zI zL (uM u),zI zL (uA u),zI zL (uD u),zI zL lo,zI zL hi,zI zL at0] 45)).drew)
 have AR:Hid (aH (v7.alloc (.cells #[.string (bs nm),.bool (uF u),zI zL (uM u),zI zL (uA u),zI zL (uD u),zI zL lo,zI zL hi,zI zL at0] 45)).drew v7.heap.size [.string (bs nm),.bool (uF u),zI zL (uM u),zI zL (uA u),zI zL (uD u),zI zL lo,zI zL hi,zI zL at0]):=aH.of (aH.new v7 [.string (bs nm),.bool (uF u),zI zL (uM u),zI zL (uA u),zI zL (uD u),zI zL lo,zI zL hi,zI zL at0] 45) rfl
 have CA:=zH (HC.out.keep SA.out.kp.size (fun j hj hj2=>SA.out.kp.block j hj zce))
 have hsA:(v7.alloc (.cells #[.string (bs nm),.bool (uF u),zI zL (uM u),zI zL (uA u),zI zL (uD u),zI zL lo,zI zL hi,zI zL at0] 45)).drew.heap.size=v7.heap.size+1:=by simp
 generalize (v7.alloc (.cells #[.string (bs nm),.bool (uF u),zI zL (uM u),zI zL (uA u),zI zL (uD u),zI zL lo,zI zL hi,zI zL at0] 45)).drew=UA at *
 obtain⟨v',W2,hr,hown,hgr,hob⟩:=dG 23 45 8 Tryz.underlying23 zD zah UA base 23 (Value.slice q ds.length dc) ds.length _ CA.out.dr v7.heap.size [.string (bs nm),.bool (uF u),zI zL (uM u),zI zL (uA u),zI zL (uD u),zI zL lo,zI zL hi,zI zL at0] rfl (fun j u hu=>(AR.out j u hu).1) zbj zac zac
 obtain⟨q',c',rfl⟩:=aF hown
 have hdo:some dq≠(Value.slice q ds.length dc).ownBlock:=fun e=>by have:=(HC.out.dr.lt dq e.symm).2;omega
 have hco:some cb≠(Value.slice q ds.length dc).ownBlock:=fun e=>by have:=(HC.out.dr.lt cb e.symm).1;omega
 have D2x:=zH (DA.out.of (hgr.block dq (DA.out.lt (by simp)) hdo))
 have A2x:=CA.out.at2.heap (hgr.block cb CA.out.at2.lt hco)
 obtain⟨a0,a1,g0,g1⟩:=A2x
 refine wpAnyH_ready (rs:=[7]) zab (by simp) (st7 (fun K hK=>?_) AllReadyH.nil)
 refine(if_pos zab).mpr ?_
 refine wV (v:=Value.slice q ds.length dc) (y:= .slice (some ⟨v7.heap.size,0,none⟩) 1 1) (.tmp 37) (.tmp 39) (by rfl) (by rfl) (by rfl) hr ?_
 refine hK.out _ _ ?_ (fun hHeld=>?_)
 ·exact⟨(D2x.out 0 _ rfl).1,(D2x.out 1 _ rfl).1,(D2x.out 2 _ rfl).1,(D2x.out 3 _ rfl).1,(D2x.out 4 _ rfl).1,(D2x.out 5 _ rfl).1,(D2x.out 6 _ rfl).1,(D2x.out 7 _ rfl).1⟩
 clear hK K
 try simp only[Act.put,zA,zB,zC]
 refine wpAnyH_ready (rs:=[8]) zab (by simp) (st8 (fun K hK=>?_) AllReadyH.nil)
 go_simp
 refine hK.out _ _ ?_ (fun hHeld=>?_)
 ·exact⟨(D2x.out 0 _ rfl).1,(D2x.out 1 _ rfl).1,(D2x.out 2 _ rfl).1,(D2x.out 3 _ rfl).1,(D2x.out 4 _ rfl).1,(D2x.out 5 _ rfl).1,(D2x.out 6 _ rfl).1,(D2x.out 7 _ rfl).1⟩
 clear hK K
 try simp only[Act.put,zA,zB,zC]
 refine wpAnyH_ready (rs:=[9]) zab (by simp) (st9 (fun K hK=>?_) AllReadyH.nil)
 go_simp
 refine hK.out _ _ ?_ (fun hHeld=>?_)
 ·exact⟨(D2x.out 0 _ rfl).1,(D2x.out 1 _ rfl).1,(D2x.out 2 _ rfl).1,(D2x.out 3 _ rfl).1,(D2x.out 4 _ rfl).1,(D2x.out 5 _ rfl).1,(D2x.out 6 _ rfl).1,(D2x.out 7 _ rfl).1⟩
 clear hK K
 try simp only[Act.put,zA,zB,zC]
 refine wpAnyH_ready (rs:=[10]) zab (by simp) (Ei (fun K hK=>?_) AllReadyH.nil)
 go_simp
 have D3x:=zH (D2x.out.other NDc 0 (.slice q' (ds.length+1) c'))
 refine hK.out _ _ ?_ (fun hHeld=>?_)
 ·exact⟨(D3x.out 0 _ rfl).1,(D3x.out 1 _ rfl).1,(D3x.out 2 _ rfl).1,(D3x.out 3 _ rfl).1,(D3x.out 4 _ rfl).1,(D3x.out 5 _ rfl).1,(D3x.out 6 _ rfl).1,(D3x.out 7 _ rfl).1⟩
 clear hK K
 try simp only[Act.put,zA,zB,zC]
 refine wpAnyH_done zab ?_ _
 go_wp2_with fail
 go_end0
 rw[<-HO.out]
 refine⟨k7,.slice q' (ds.length+1) c',vr,ns,rfl,SA.out.rd.of (by simpa[World.setCell] using hgr.size) (fun j hj hj2=>?_),rfl,by have:=CA.out.addD (d:=⟨nm,u,lo,hi,pl⟩) (v':= .slice q' (ds.length+1) c') (by simpa[dV,HAT.out] using hown) hgr hob;exact this,⟨hgr.os.trans SA.out.kp.os,hgr.tape.trans SA.out.kp.tape,hgr.output.trans SA.out.kp.output,by simpa[World.setCell] using Nat.le_trans SA.out.kp.size hgr.size,fun j hj hj2=>?_⟩,hob.imp id (fun h=>⟨_,h,zac⟩),.inl rfl⟩
 ·have hjb:j<base/\j≠cb:=by
   rcases hj2 with rfl|rfl|⟨hz,rfl⟩
   ·exact⟨hbb.1,hbb.2.1⟩
   ·exact⟨hbb.2.2.1,hbb.2.2.2.1⟩
   ·exact hbb.2.2.2.2.1 hz
  exact(Below.heap_setCell _ _ _ _ hjb.2).trans (hgr.block j hj (fun e=>by have:=(HC.out.dr.lt j e.symm).1;omega))
 ·simp only[not_or] at hj2
  exact(Below.heap_setCell _ _ _ _ hj2.2.1).trans ((hgr.block j (Nat.lt_of_lt_of_le hj SA.out.kp.size) (fun e=>hj2.2.2.1 e.symm)).trans (SA.out.kp.block j hj hj2.1))):P:=h
theorem zz19{P:Prop}(h:P:=by
 have e42:=zE s[0] 42 false zad
 have e47:=zE s[0] 47 false zad
 have e61:=zE s[0] 61 false zad
 have l1:¬(1:Int)<(s.size:Int):=zac
 have l2:decide ((1:Int)<(s.size:Int))=false:=decide_eq_false l1
 clear HG hd hS hsz HQ HL HK
 go_enter Tryz.func63,Tryz.ntmps63
 go_wp2_with fail
 go_ret
 exact⟨bg zbu,rfl⟩):P:=h
theorem FL{P:Prop}(h:P:=by
 clear HG hd hS hsz HQ HL HK
 go_enter Tryz.func63,Tryz.ntmps63
 go_wp2_with fail
 go_ret
 exact⟨bg zbu,rfl⟩):P:=h
theorem zz21{P:Prop}(h:P:=by
 have e42:=zE s[0] 42 false zag
 have e47:=zE s[0] 47 false zag
 have e61:=zE s[0] 61 false zag
 clear HG hd hS hsz
 go_enter Tryz.func102,Tryz.ntmps102
 go_wp2_with (refine(KP.out _).mono ?_;rintro _ _ ⟨rfl,rfl⟩)
 go_ret
 exact⟨bg zbu,rfl⟩):P:=h
theorem zz22{P:Prop}(h:P:=by
 refine hK.out _ _ ?_ (fun hHeld=>?_)
 ·exact hS
 clear hK K
 try simp only[Act.put,zA,zB,zC]
 refine wpAnyH_ready (rs:=[3]) zab (by simp) (st3 (fun K hK=>?_) AllReadyH.nil)
 go_simp
 refine(KW.out _ _ _ _ (HS.out.bel F.out.B) hs5).mono ?_
 rintro _ v6 ⟨rfl,hb⟩
 go_wp2_with fail
 replace F:=zH (F.out.bel hb)
 replace D:=zH (D.out.bel (Nat.succ_pos _) hb)
 clear hb
 replace hS:Hid (B5 v6 w.heap.size (.slice p n cap) (zI zL (k:Nat)) (zI zL En) (zI zL 0) (zI zL O)):=F.out.A
 refine hK.out _ _ ?_ (fun hHeld=>?_)
 ·exact hS
 clear hK K
 try simp only[Act.put,zA,zB,zC]
 refine tk4 (v:= zI zL kd) zab zab zab (fun _ _ _ h=>h) (Or.inl ⟨zab,?_⟩) hS ?_
 ·intro w' hSw
  have hwr:IntKind.i64.wrap ((u:Int)+1)=kd:=by rw[HKDv.out];exact IntWalk.i64_in _ zac
  go_simp
  first|done|(rw[hwr];done)|(simp[hwr];done)
 simp only[Act.put,zA,zB,zC]
 refine CS (v:= .agg #[.string ⟨#[]⟩,zI zL 0,zI zL kd,.string ⟨#[]⟩,zI zL 0,zI zL 36525,zI zL 0,zI zL 17,zI zL at0,.string ⟨#[]⟩,zI zL 0,zI zL 0,.bool false,zI zL 0,zI zL 0,zI zL 0,.slice none 0 0,zI zL 1,zI zL at0,.string ⟨#[]⟩,zI zL 0,zI zL 1,.bool false,zI zL 0,zI zL 0,zI zL 0,.slice none 0 0,zI zL at0]) zab zab zab (fun _ _ _ h=>h) (Or.inl ⟨zab,?_⟩) hS ?_
 ·intro w' hSw
  exact jv rfl (fw _ _ _)
 simp only[Act.put,zA,zB,zC]
 refine wpAnyH_ready (rs:=[13]) zab (by simp) (Ew (fun K hK=>?_) AllReadyH.nil)
 refine(if_pos zab).mpr ?_
 refine gz rfl rfl rfl (dz 49 28 zab v6 db [.string ⟨#[]⟩,zI zL 0,zI zL 0,.string ⟨#[]⟩,zI zL 0,zI zL 0,zI zL 0,zI zL 0,zI zL 0,.string ⟨#[]⟩,zI zL 0,zI zL 0,.bool false,zI zL 0,zI zL 0,zI zL 0,.slice none 0 0,zI zL 0,zI zL 0,.string ⟨#[]⟩,zI zL 0,zI zL 0,.bool false,zI zL 0,zI zL 0,zI zL 0,.slice none 0 0,zI zL 0] [.string ⟨#[]⟩,zI zL 0,zI zL kd,.string ⟨#[]⟩,zI zL 0,zI zL 36525,zI zL 0,zI zL 17,zI zL at0,.string ⟨#[]⟩,zI zL 0,zI zL 0,.bool false,zI zL 0,zI zL 0,zI zL 0,.slice none 0 0,zI zL 1,zI zL at0,.string ⟨#[]⟩,zI zL 0,zI zL 1,.bool false,zI zL 0,zI zL 0,zI zL 0,.slice none 0 0,zI zL at0] D.out rfl rfl zbj) ?_
 replace D:=zH (D.out.cells (L:=[.string ⟨#[]⟩,zI zL 0,zI zL kd,.string ⟨#[]⟩,zI zL 0,zI zL 36525,zI zL 0,zI zL 17,zI zL at0,.string ⟨#[]⟩,zI zL 0,zI zL 0,.bool false,zI zL 0,zI zL 0,zI zL 0,.slice none 0 0,zI zL 1,zI zL at0,.string ⟨#[]⟩,zI zL 0,zI zL 1,.bool false,zI zL 0,zI zL 0,zI zL 0,.slice none 0 0,zI zL at0]) rfl)
 have hk:=aT (b:=db) (w:=v6) [.string ⟨#[]⟩,zI zL 0,zI zL kd,.string ⟨#[]⟩,zI zL 0,zI zL 36525,zI zL 0,zI zL 17,zI zL at0,.string ⟨#[]⟩,zI zL 0,zI zL 0,.bool false,zI zL 0,zI zL 0,zI zL 0,.slice none 0 0,zI zL 1,zI zL at0,.string ⟨#[]⟩,zI zL 0,zI zL 1,.bool false,zI zL 0,zI zL 0,zI zL 0,.slice none 0 0,zI zL at0] 0 v6 (Kept.refl _ _)
 replace F:=zH (F.out.kept hk ldb)
 replace hS:Hid (B5 _ w.heap.size (.slice p n cap) (zI zL (k:Nat)) (zI zL En) (zI zL 0) (zI zL O)):=F.out.A
 clear hk
 generalize v6.setCells db 0 [.string ⟨#[]⟩,zI zL 0,zI zL kd,.string ⟨#[]⟩,zI zL 0,zI zL 36525,zI zL 0,zI zL 17,zI zL at0,.string ⟨#[]⟩,zI zL 0,zI zL 0,.bool false,zI zL 0,zI zL 0,zI zL 0,.slice none 0 0,zI zL 1,zI zL at0,.string ⟨#[]⟩,zI zL 0,zI zL 1,.bool false,zI zL 0,zI zL 0,zI zL 0,.slice none 0 0,zI zL at0]=UB at *
 refine hK.out _ _ ?_ (fun hHeld=>?_)
 ·exact hS
 clear hK K
 simp only[Act.put]
 refine wpAnyH_done zab ?_ _
 clear hS
 show K0 _ _
 rw[HK0.out]
 exact⟨db,zbc,ldb,D.out.lt (Nat.succ_pos _),F,D⟩):P:=h
theorem zz23{P:Prop}(h:P:=by
 refine hK.out _ _ ?_ (fun hHeld=>?_)
 ·exact hS
 clear hK K
 try simp only[Act.put,zA,zB,zC]
 refine wpAnyH_ready (rs:=[3]) zab (by simp) (st3 (fun K hK=>?_) AllReadyH.nil)
 go_simp
 refine(KW.out _ _ _ _ (HS.out.bel F.out.B) hs5).mono ?_
 rintro _ v6 ⟨rfl,hb⟩
 go_wp2_with fail
 replace F:=zH (F.out.bel hb)
 replace D:=zH (D.out.bel (Nat.succ_pos _) hb)
 clear hb
 replace hS:Hid (B5 v6 w.heap.size (.slice p n cap) (zI zL (k:Nat)) (zI zL En) (zI zL E) (zI zL O)):=F.out.A
 refine hK.out _ _ ?_ (fun hHeld=>?_)
 ·exact hS
 clear hK K
 try simp only[Act.put,zA,zB,zC]
 refine tk4 (v:= zI zL 0) zab zab zab (fun _ _ _ h=>h) (Or.inl ⟨zab,?_⟩) hS ?_
 ·intro w' hSw
  go_simp
  exact IntWalk.i64_in 0 zac
 simp only[Act.put,zA,zB,zC]
 refine CS (v:= .agg #[.string ⟨#[]⟩,zI zL 0,zI zL 0,.string ⟨#[]⟩,zI zL 0,zI zL 36525,zI zL 0,zI zL 17,zI zL at0,.string ⟨#[]⟩,zI zL 0,zI zL 0,.bool false,zI zL 0,zI zL 0,zI zL 0,.slice none 0 0,zI zL 1,zI zL at0,.string ⟨#[]⟩,zI zL 0,zI zL 1,.bool false,zI zL 0,zI zL 0,zI zL 0,.slice none 0 0,zI zL at0]) zab zab zab (fun _ _ _ h=>h) (Or.inl ⟨zab,?_⟩) hS ?_
 ·intro w' hSw
  exact jv rfl (fw _ _ _)
 simp only[Act.put,zA,zB,zC]
 refine wpAnyH_ready (rs:=[13]) zab (by simp) (Ew (fun K hK=>?_) AllReadyH.nil)
 refine(if_pos zab).mpr ?_
 refine gz rfl rfl rfl (dz 49 28 zab v6 db [.string ⟨#[]⟩,zI zL 0,zI zL 0,.string ⟨#[]⟩,zI zL 0,zI zL 0,zI zL 0,zI zL 0,zI zL 0,.string ⟨#[]⟩,zI zL 0,zI zL 0,.bool false,zI zL 0,zI zL 0,zI zL 0,.slice none 0 0,zI zL 0,zI zL 0,.string ⟨#[]⟩,zI zL 0,zI zL 0,.bool false,zI zL 0,zI zL 0,zI zL 0,.slice none 0 0,zI zL 0] [.string ⟨#[]⟩,zI zL 0,zI zL 0,.string ⟨#[]⟩,zI zL 0,zI zL 36525,zI zL 0,zI zL 17,zI zL at0,.string ⟨#[]⟩,zI zL 0,zI zL 0,.bool false,zI zL 0,zI zL 0,zI zL 0,.slice none 0 0,zI zL 1,zI zL at0,.string ⟨#[]⟩,zI zL 0,zI zL 1,.bool false,zI zL 0,zI zL 0,zI zL 0,.slice none 0 0,zI zL at0] D.out rfl rfl zbj) ?_
 replace D:=zH (D.out.cells (L:=[.string ⟨#[]⟩,zI zL 0,zI zL 0,.string ⟨#[]⟩,zI zL 0,zI zL 36525,zI zL 0,zI zL 17,zI zL at0,.string ⟨#[]⟩,zI zL 0,zI zL 0,.bool false,zI zL 0,zI zL 0,zI zL 0,.slice none 0 0,zI zL 1,zI zL at0,.string ⟨#[]⟩,zI zL 0,zI zL 1,.bool false,zI zL 0,zI zL 0,zI zL 0,.slice none 0 0,zI zL at0]) rfl)
 have hk:=aT (b:=db) (w:=v6) [.string ⟨#[]⟩,zI zL 0,zI zL 0,.string ⟨#[]⟩,zI zL 0,zI zL 36525,zI zL 0,zI zL 17,zI zL at0,.string ⟨#[]⟩,zI zL 0,zI zL 0,.bool false,zI zL 0,zI zL 0,zI zL 0,.slice none 0 0,zI zL 1,zI zL at0,.string ⟨#[]⟩,zI zL 0,zI zL 1,.bool false,zI zL 0,zI zL 0,zI zL 0,.slice none 0 0,zI zL at0] 0 v6 (Kept.refl _ _)
 replace F:=zH (F.out.kept hk ldb)
 replace hS:Hid (B5 _ w.heap.size (.slice p n cap) (zI zL (k:Nat)) (zI zL En) (zI zL E) (zI zL O)):=F.out.A
 clear hk
 generalize v6.setCells db 0 [.string ⟨#[]⟩,zI zL 0,zI zL 0,.string ⟨#[]⟩,zI zL 0,zI zL 36525,zI zL 0,zI zL 17,zI zL at0,.string ⟨#[]⟩,zI zL 0,zI zL 0,.bool false,zI zL 0,zI zL 0,zI zL 0,.slice none 0 0,zI zL 1,zI zL at0,.string ⟨#[]⟩,zI zL 0,zI zL 1,.bool false,zI zL 0,zI zL 0,zI zL 0,.slice none 0 0,zI zL at0]=UB at *
 refine hK.out _ _ ?_ (fun hHeld=>?_)
 ·exact hS
 clear hK K
 simp only[Act.put]
 refine wpAnyH_done zab ?_ _
 clear hS
 show K0 _ _
 rw[HK0.out]
 exact⟨db,zbc,ldb,D.out.lt (Nat.succ_pos _),F,D⟩):P:=h
theorem zz24{P:Prop}(h:P:=by
 have SA:=zH ((S7.out.alloc (.cells LL.toArray 49)).drew)
 have DA:=zH (D7.out.bel zac ((Below.refl v7.heap.size v7).alloc (Nat.le_refl _) (.cells LL.toArray 49)).drew)
 have AR:Hid (aH (v7.alloc (.cells LL.toArray 49)).drew v7.heap.size LL):=aH.of (aH.new v7 LL 49) rfl
 have CA:=zH (HC.out.keep SA.out.kp.size (fun j hj hj2=>SA.out.kp.block j hj zce))
 have hsA:(v7.alloc (.cells LL.toArray 49)).drew.heap.size=v7.heap.size+1:=by simp
 have hbA:∀j,j<v7.heap.size->(v7.alloc (.cells LL.toArray 49)).drew.heap[j]? = v7.heap[j]?:=((Below.refl v7.heap.size v7).alloc (Nat.le_refl _) (.cells LL.toArray 49)).drew.block
 have toN:∀(t:Tree) (z:NV),NodeA v7 (fun j=>bq<j) (ag ts En) t z->NodeA (v7.alloc (.cells LL.toArray 49)).drew (NBl base gx vd (.slice q rs.length rc)) (ag ts En) t z:=fun t z hz =>
  NodeA.keep zac (fun j _ hj=>hbA j hj) (fun j (hj:bq<j) _=>⟨zac,(fun e=>by have:=(HC.out.dr.lt j e).2;omega),(fun e=>by have:=(HC.out.rr.lt j e).2;omega),zac⟩) _ _ hz
 have HX:=zH (toN _ _ N0y.out)
 have HY:=zH (toN _ _ N1y.out)
 clear toN hbA
 generalize (v7.alloc (.cells LL.toArray 49)).drew=UA at *
 obtain⟨v',W2,hr,hown,hgr,hob⟩:=dG 24 49 28 Tryz.underlying24 zR zah UA base 24 (Value.slice q rs.length rc) rs.length _ CA.out.rr v7.heap.size LL hLn (fun j u hu=>(AR.out j u hu).1) hL1 zac zac
 obtain⟨q',c',rfl⟩:=aF hown
 have hdo:some bq≠(Value.slice q rs.length rc).ownBlock:=fun e=>by have:=(HC.out.rr.lt bq e.symm).2;omega
 have hco:some cb≠(Value.slice q rs.length rc).ownBlock:=fun e=>by have:=(HC.out.rr.lt cb e.symm).1;omega
 have D2x:=zH (DA.out.of (hgr.block bq (DA.out.lt zac) hdo))
 have A2x:=CA.out.at2.heap (hgr.block cb CA.out.at2.lt hco)
 rw[HRV.out] at hown
 have hadd:=CA.out.addR (r:=⟨nm,ver,kdn,ac,fr,un,kn,wh,gi,pl⟩) (x:=x) (y:=y) (v':= .slice q' (rs.length+1) c') hown hgr hob HX.out HY.out
 obtain⟨a0,a1,g0,g1⟩:=A2x
 refine wpAnyH_ready (rs:=[7]) zab (by simp) (st7 (fun K hK=>?_) AllReadyH.nil)
 refine(if_pos zab).mpr ?_
 refine wV (v:=Value.slice q rs.length rc) (y:= .slice (some ⟨v7.heap.size,0,none⟩) 1 1) (.tmp 68) (.tmp 70) (by rfl) (by rfl) (by rfl) hr ?_
 refine hK.out _ _ ?_ (fun hHeld=>?_)
 ·exact D2x
 clear hK K
 try simp only[Act.put,zA,zB,zC]
 refine wpAnyH_ready (rs:=[8]) zab (by simp) (st8 (fun K hK=>?_) AllReadyH.nil)
 go_simp
 refine hK.out _ _ ?_ (fun hHeld=>?_)
 ·exact D2x
 clear hK K
 try simp only[Act.put,zA,zB,zC]
 refine wpAnyH_ready (rs:=[9]) zab (by simp) (st9 (fun K hK=>?_) AllReadyH.nil)
 go_simp
 refine hK.out _ _ ?_ (fun hHeld=>?_)
 ·exact D2x
 clear hK K
 try simp only[Act.put,zA,zB,zC]
 refine wpAnyH_ready (rs:=[10]) zab (by simp) (Ei (fun K hK=>?_) AllReadyH.nil)
 go_simp
 have D3x:=zH (D2x.out.other NDc 1 (.slice q' (rs.length+1) c'))
 refine hK.out _ _ ?_ (fun hHeld=>?_)
 ·exact D3x
 clear hK K
 try simp only[Act.put,zA,zB,zC]
 refine wpAnyH_done zab ?_ _
 go_wp2_with fail
 go_end0
 rw[<-HO.out]
 refine⟨k7,vd,.slice q' (rs.length+1) c',ns++[(x,y)],rfl,SA.out.rd.of (by simpa[World.setCell] using hgr.size) (fun j hj hj2=>?_),rfl,hadd,⟨hgr.os.trans SA.out.kp.os,hgr.tape.trans SA.out.kp.tape,hgr.output.trans SA.out.kp.output,by simpa[World.setCell] using Nat.le_trans SA.out.kp.size hgr.size,fun j hj hj2=>?_⟩,.inl rfl,hob.imp id (fun h=>⟨_,h,zac⟩)⟩
 ·have hjb:j<base/\j≠cb:=by
   rcases hj2 with rfl|rfl|⟨hz,rfl⟩
   ·exact⟨hbb.1,hbb.2.1⟩
   ·exact⟨hbb.2.2.1,hbb.2.2.2.1⟩
   ·exact hbb.2.2.2.2.1 hz
  exact(Below.heap_setCell _ _ _ _ hjb.2).trans (hgr.block j hj (fun e=>by have:=(HC.out.rr.lt j e.symm).1;omega))
 ·simp only[not_or] at hj2
  exact(Below.heap_setCell _ _ _ _ hj2.2.1).trans ((hgr.block j (Nat.lt_of_lt_of_le hj SA.out.kp.size) (fun e=>hj2.2.2.2 e.symm)).trans (SA.out.kp.block j hj hj2.1))):P:=h
theorem Fx{P:Prop}(h:P:=by
 go_enter Tryz.func63,Tryz.ntmps63
 go_wp2_with fail
 go_ret
 exact⟨bg zbu,rfl⟩):P:=h
theorem zz26{P:Prop}(h:P:=by
 have e61:=zE s[0] 61 false zag
 clear HG hd hS hsz
 go_enter Tryz.func102,Tryz.ntmps102
 go_wp2_with (refine(KP.out _).mono ?_;rintro _ _ ⟨rfl,rfl⟩)
 go_ret
 exact⟨bg zbu,rfl⟩):P:=h
theorem xA{P:Prop}(h:P:=by
 go_enter Tryz.func12,Tryz.ntmps12
 go_wp2_with fail
 all_goals
  go_ret
  exact⟨aD HE.out,zaf⟩):P:=h
theorem zz28{P:Prop}(h:P:=by
 refine hK.out _ _ ?_ (fun hHeld=>?_)
 ·exact⟨P5.out.c0,P5.out.c1,P5.out.c2⟩
 clear hK K
 try simp only[Act.put,zA,zB,zC]
 have HE2:=HE.out
 rw[bind_ok] at HE2
 have HG2:=HG.out.len.2 rfl
 simp only[List.length_drop] at HG2
 clear HG HE
 refine wpAnyH_ready (rs:=[5]) zab (by simp) (st5 (fun K hK=>?_) AllReadyH.nil)
 have KN:=zH (lM (fun j=>w.heap.size+1<=j/\j≠lq) (ag ts En) LV op false (ts.length-k) n m ⟨xo,xa,xs,xn,xd,xf,xm,xr,xy,xq,xk,xc⟩ ⟨yo,ya,ys,yn,yd,yf,ym,yr,yy,yq,yk,yc⟩ v5 ND5.out NM5.out (fun j hj=>⟨zac,zac⟩))
 rw[<-HAT.out] at KN
 unfold opV nv at KN
 go_simp
 refine KN.out.mono ?_
 rintro _ v6 ⟨⟨uo,ua,us,un,ud,uf,um,ur,uy,uq,uk,uc⟩,rfl,hz,hb⟩
 have hsz6:=hb.size
 have S6:=zH (S5.out.bel hb)
 have R6:=zH (R5.out.bel hb)
 have L6:=zH (L5.out.bel hb)
 have P6:=zH (P5.out.bel hb)
 have NZ:=zH hz
 clear hb hz KN S5 R5 L5 P5 ND5 NM5
 go_wp2_with fail
 refine hK.out _ _ ?_ (fun hHeld=>?_)
 ·exact⟨P6.out.c0,P6.out.c1,P6.out.c2⟩
 clear hK K
 try simp only[Act.put,zA,zB,zC]
 obtain⟨z0,z1,z2,z3,z4,z5,z6,z7,z8,z9,m0,m1,m2,m3,m4,m5,m6,m7,m8,m9⟩:=L6.out
 refine wpAnyH_ready (rs:=[6]) zab (by simp) (st6 (fun K hK=>?_) AllReadyH.nil)
 go_simp
 have P7:=zH ((((((((((P6.out.other NPL 0 (zI zL uo)).other NPL 1 (zI zL ua)).other NPL 2 (.string us)).other NPL 3 (zI zL un)).other NPL 4 (zI zL ud)).other NPL 5 (.bool uf)).other NPL 6 (zI zL um)).other NPL 7 (zI zL ur)).other NPL 8 (zI zL uy)).other NPL 9 (.slice uq uk uc))
 refine hK.out _ _ ?_ (fun hHeld=>?_)
 ·exact⟨P7.out.c0,P7.out.c1,P7.out.c2⟩
 clear hK K
 try simp only[Act.put,zA,zB,zC]
 refine wpAnyH_done zab ?_ _
 go_wp2_with fail
 go_roundg (ts.length-k2)
 case measure=>omega
 case rel=>exact⟨k2,.mk op (ts.length-k) [] 0 0 1 [n,m],⟨uo,ua,us,un,ud,uf,um,ur,uy,uq,uk,uc⟩,Nat.le_refl _,zac,⟨((((((((((S6.out.other zac 0 _).other zac 1 _).other zac 2 _).other zac 3 _).other zac 4 _).other zac 5 _).other zac 6 _).other zac 7 _).other zac 8 _).other zac 9 _),((((((((((R6.out.other zac 0 none _).other zac 1 none _).other zac 2 none _).other zac 3 none _).other zac 4 none _).other zac 5 none _).other zac 6 none _).other zac 7 none _).other zac 8 none _).other zac 9 none _),L6.out.put _ _ _ _ _ _ _ _ _ _,((((((((((NZ.out.set (fun h=>h.2 rfl) 0 _).set (fun h=>h.2 rfl) 1 _).set (fun h=>h.2 rfl) 2 _).set (fun h=>h.2 rfl) 3 _).set (fun h=>h.2 rfl) 4 _).set (fun h=>h.2 rfl) 5 _).set (fun h=>h.2 rfl) 6 _).set (fun h=>h.2 rfl) 7 _).set (fun h=>h.2 rfl) 8 _).set (fun h=>h.2 rfl) 9 _),zac⟩,HE2⟩):P:=h
theorem FJ{P:Prop}(h:P:=by
 have hks:k<s.size:=zac
 have hltz:(k:Int)<(s.size:Int):=zac
 have KD:=zH (aZ s[k])
 rw[hget.out k hks,I1.out k hlt,<-hget.out k hks] at KD
 go_wp2_with ((with_reducible refine(KD.out _).mono ?_);rintro _ _ ⟨rfl,rfl⟩)
 go_roundg (W-(k+1))
 case measure=>omega
 case rel=>exact⟨k+1,by go_num,zac,zac,rfl⟩):P:=h
theorem zz30{P:Prop}(h:P:=by
 clear HG hd hS hsz
 go_enter Tryz.func102,Tryz.ntmps102
 go_wp2_with (refine(KP.out _).mono ?_;rintro _ _ ⟨rfl,rfl⟩)
 go_ret
 exact⟨bg zbu,rfl⟩):P:=h
theorem zz31{P:Prop}(h:P:=by
 refine(KX.out _ HX.out HX'.out).mono ?_
 rintro _ w1 ⟨rfl,hb⟩
 have HB1:=zH (HB.out.trans (hb.mono (by have:=HB.out.size;have:=HN0.out;omega)))
 have HY1:=zH (NodeA.bel hb _ _ HY.out)
 have HY1':=zH (NodeA.bel hb _ _ HY'.out)
 have E1:=zH (D1.out.of (hb.block n0 (D1.out.lt zda)))
 have E2:=zH (D2.out.of (hb.block n1 (D2.out.lt zda)))
 clear hb HB KX HX HX' HY HY' D1 D2 c0 d0 c1 d1 c2 d2 c3 d3 c4 d4 c5 d5 c6 d6 c7 d7 c8 d8 c9 d9 c10 d10 c11 d11 c12 d12 c13 d13 c14 d14 c15 d15 c16 d16 c17 d17 c18 d18 c19 d19 c20 d20 c21 d21 c22 d22 c23 d23 c24 d24 c25 d25 c26 d26 c27 d27
 have c17:w1.cell? ⟨n0,17,none⟩=some (zI zL yo):=(E1.out 17 _ rfl).1
 have c18:w1.cell? ⟨n0,18,none⟩=some (zI zL ya):=(E1.out 18 _ rfl).1
 have c19:w1.cell? ⟨n0,19,none⟩=some (.string ys):=(E1.out 19 _ rfl).1
 have c20:w1.cell? ⟨n0,20,none⟩=some (zI zL yn):=(E1.out 20 _ rfl).1
 have c21:w1.cell? ⟨n0,21,none⟩=some (zI zL yd):=(E1.out 21 _ rfl).1
 have c22:w1.cell? ⟨n0,22,none⟩=some (.bool yf):=(E1.out 22 _ rfl).1
 have c23:w1.cell? ⟨n0,23,none⟩=some (zI zL ym):=(E1.out 23 _ rfl).1
 have c24:w1.cell? ⟨n0,24,none⟩=some (zI zL yr):=(E1.out 24 _ rfl).1
 have c25:w1.cell? ⟨n0,25,none⟩=some (zI zL yy):=(E1.out 25 _ rfl).1
 have c26:w1.cell? ⟨n0,26,none⟩=some (.slice yq yk yc):=(E1.out 26 _ rfl).1
 have d17:w1.cell? ⟨n1,17,none⟩=some (zI zL vo):=(E2.out 17 _ rfl).1
 have d18:w1.cell? ⟨n1,18,none⟩=some (zI zL va):=(E2.out 18 _ rfl).1
 have d19:w1.cell? ⟨n1,19,none⟩=some (.string vs):=(E2.out 19 _ rfl).1
 have d20:w1.cell? ⟨n1,20,none⟩=some (zI zL vn):=(E2.out 20 _ rfl).1
 have d21:w1.cell? ⟨n1,21,none⟩=some (zI zL vd):=(E2.out 21 _ rfl).1
 have d22:w1.cell? ⟨n1,22,none⟩=some (.bool vf):=(E2.out 22 _ rfl).1
 have d23:w1.cell? ⟨n1,23,none⟩=some (zI zL vm):=(E2.out 23 _ rfl).1
 have d24:w1.cell? ⟨n1,24,none⟩=some (zI zL vr):=(E2.out 24 _ rfl).1
 have d25:w1.cell? ⟨n1,25,none⟩=some (zI zL vy):=(E2.out 25 _ rfl).1
 have d26:w1.cell? ⟨n1,26,none⟩=some (.slice vq vk vc):=(E2.out 26 _ rfl).1
 go_wp2_with fail
 refine(KY.out _ HY1.out HY1'.out).mono ?_
 rintro _ w2 ⟨rfl,hb⟩
 have HB2:=zH (HB1.out.trans (hb.mono (by have:=HB1.out.size;have:=HN0.out;omega)))
 clear hb
 go_wp2_with fail
 go_ret
 exact⟨rfl,HB2.out⟩):P:=h
theorem EN{P:Prop}(h:P:=by
 rw[hm] at k
 have K:=zH k
 have f0:decide (d<1)=false:=zai
 clear k hm
 go_enter Tryz.func112,Tryz.ntmps112
 go_wp2_with fail
 refine K.out.mono ?_
 rintro e w1 ⟨rfl,hb1⟩
 have hz1:=hb1.size
 simp only[World.size_alloc] at hz1
 have A1:At2 w1 w.heap.size (zI zL n) (zI zL d):=(At2.new w _ _ _).below hb1 (by simp)
 have HBX:Below w.heap.size w w1:=((Below.refl _ _).alloc (Nat.le_refl _) _).trans (hb1.mono (by simp))
 clear hb1
 obtain⟨p0,p1,p2,p3⟩:=A1
 have pl:w.heap.size<w1.heap.size:=zac
 go_wp2
 go_ret
 exact⟨rfl,(by repeat' (first|exact HBX|refine Below.setCell ?_ zas _|refine below_drewN ?_ _|refine Below.alloc ?_ zas _))⟩):P:=h
theorem zz33{P:Prop}(h:P:=by
 exact bodyPost_ret (v:= .tuple #[.agg #[zI zL 0,zI zL 0],zI zL 8]) (by simp[results,Tryz.results65,go_sem,c0,c1]) rfl ⟨by rw[HV.out],zbp⟩):P:=h
theorem zz34{P:Prop}(h:P:=by
 go_wp2_with fail
 refine K1.out.mono ?_
 rintro _ v ⟨rfl,hb⟩
 have S1:=zH (S.out.bel hb)
 clear hb K1 S HF hwb
 have HE2:=HE.out
 by_cases hz:c.es.length=0
 ·have hes:c.es=[]:=List.length_eq_zero_iff.1 hz
  have e5:decide (0<c.es.length)=false:=decide_eq_false zac
  have HES:=zH hes
  clear HE2 hz hes
  obtain⟨dq,dc,rfl⟩:=aF S1.out.cx.dr
  obtain⟨rq,rc,rfl⟩:=aF S1.out.cx.rr
  obtain⟨cx0,cx1,cf0,cf1⟩:=S1.out.cx.at2
  obtain⟨rx0,rx1,rf0,rf1⟩:=S1.out.rs
  go_wp2_with fail
  refine(?_:∀G:World,At2 G res (.slice dq c.ds.length dc) (.slice rq c.rs.length rc)->Kept b w G->ByV G w.heap.size (ag ts En) F (.slice dq c.ds.length dc) (.slice rq c.rs.length rc) (aB)->bodyPost _ _ _ _ _ G) _ (S1.out.rs.put (.slice dq c.ds.length dc) (.slice rq c.rs.length rc)) (S1.out.kp2 (.slice dq c.ds.length dc) (.slice rq c.rs.length rc)) (by rw[<-HE.out];exact S1.out.finY HES.out)
  intro G hG hK hV
  obtain⟨y0,y1,-,-⟩:=hG
  exact bodyPost_ret (v:= .tuple #[.agg #[.slice dq c.ds.length dc,.slice rq c.rs.length rc],aB]) (by simp[results,Tryz.results17,go_sem,y0,y1]) rfl ⟨_,_,_,rfl,hV,hK⟩
 ·have hes:c.es≠[]:=fun e=>hz (by rw[e];rfl)
  have e5:decide (0<c.es.length)=true:=decide_eq_true zac
  have HES:=zH hes
  clear HE2 hz hes
  obtain⟨rx0,rx1,rf0,rf1⟩:=S1.out.rs
  go_wp2_with fail
  refine(?_:∀G:World,At2 G res (aB) (aB)->Kept b w G->ByV G w.heap.size (ag ts En) F (aB) (aB) (.slice gq c.es.length gc)->bodyPost _ _ _ _ _ G) _ (S1.out.rs.put (aB) (aB)) (S1.out.kp2 (aB) (aB)) (by rw[<-HE.out];exact S1.out.finN HES.out)
  intro G hG hK hV
  obtain⟨y0,y1,-,-⟩:=hG
  exact bodyPost_ret (v:= .tuple #[.agg #[aB,aB],.slice gq c.es.length gc]) (by simp[results,Tryz.results17,go_sem,y0,y1]) rfl ⟨_,_,_,rfl,hV,hK⟩):P:=h
theorem Ac{P:Prop}(h:P:=by
 exact((((((((((S2.out.other (Nat.le_refl _) 0 _).other (Nat.le_refl _) 1 _).other (Nat.le_refl _) 2 _).other (Nat.le_refl _) 3 _).other (Nat.le_refl _) 4 _).other (Nat.le_refl _) 5 _).other (Nat.le_refl _) 6 _).other (Nat.le_refl _) 7 _).other (Nat.le_refl _) 8 _).other (Nat.le_refl _) 9 _)):P:=h
theorem FD{P:Prop}(h:P:=by
 go_enter Tryz.func75,Tryz.ntmps75
 go_wp2_with fail
 change Code.wp _ _ _ _ (w.alloc gD)
 have b1:=H1.out.2.1.c0
 have b2:=H1.out.2.1.c1
 generalize w.alloc gD=w1 at *
 go_quiet (fail)
 have H2:=zH (St.bel hb H1.out (below_drewN (Below.refl _ _) nq))
 clear H1 b1 b2
 generalize w1.drewN nq=w2 at *
 go_wp2_with (first|((with_reducible refine(KL.out _).mono ?_);rintro _ _ ⟨rfl,rfl⟩)|((with_reducible refine(KD.out _).mono ?_);rintro _ _ ⟨rfl,rfl⟩))
 refine(K.out _ H2.out.2.1).mono ?_
 rintro _ w3 ⟨rfl,h4,h5⟩
 have H3:=zH (St.kept hb H2.out h4 h5)
 clear h4 h5 H2
 obtain⟨⟨c0,c1,c2,c3,c4⟩,f0,f1,f2,f3,f4⟩:=H3.out.2.2
 go_wp2_with fail
 exact bodyPost_ret (v:= .agg #[zI zL v0,zI zL v1,.string v2,zI zL v3,zI zL v4]) (by simp[results,Tryz.results75,go_sem,c0,c1,c2,c3,c4]) rfl ⟨rfl,(H3.out.fin hb _ _ _ _ _).1,(H3.out.fin hb _ _ _ _ _).2⟩):P:=h
theorem Ex{P:Prop}(h:P:=by
 exact⟨by simp[go_sem,c0],by simp[go_sem,c1],by simp[go_sem,c2],by simp[go_sem,c3],by simp[go_sem,c4],by simp[go_sem,c5],by simp[go_sem,c6],by simp[go_sem,c7],by simp[go_sem,c8],by simp[go_sem,c9],zcy,zcz,by simp[World.frozen?_setCell,f2],by simp[World.frozen?_setCell,f3],by simp[World.frozen?_setCell,f4],by simp[World.frozen?_setCell,f5],by simp[World.frozen?_setCell,f6],by simp[World.frozen?_setCell,f7],by simp[World.frozen?_setCell,f8],by simp[World.frozen?_setCell,f9]⟩):P:=h
theorem zz38{P:Prop}(h:P:=by
 by_cases hz:c.es.length=0
 ·have hes:c.es=[]:=List.length_eq_zero_iff.1 hz
  have e5:decide (0<c.es.length)=false:=decide_eq_false zac
  have HES:=zH hes
  clear hz hes
  obtain⟨r0,r1,rf0,rf1⟩:=S.out.rs
  go_wp2_with fail
  refine(?_:∀G:World,At2 G res (.slice dq c.ds.length dc) (.slice rq c.rs.length rc)->RowKit.Below w.heap.size w G->ByV G w.heap.size (ag ts En) F (.slice dq c.ds.length dc) (.slice rq c.rs.length rc) aB->bodyPost _ _ _ _ _ G) _ (S.out.rs.put (.slice dq c.ds.length dc) (.slice rq c.rs.length rc)) (S.out.bp2 (.slice dq c.ds.length dc) (.slice rq c.rs.length rc)) (by rw[<-HE.out];exact S.out.finY HES.out)
  intro G hG hB hV
  obtain⟨y0,y1,-,-⟩:=hG
  rw[HFO.out.1,HFO.out.2] at hV
  exact bodyPost_ret (v:= .tuple #[.agg #[.slice dq c.ds.length dc,.slice rq c.rs.length rc],aB]) (by simp[results,Tryz.results6,go_sem,y0,y1]) rfl ⟨_,_,_,rfl,hV,hB⟩
 ·have hes:c.es≠[]:=fun e=>hz (by rw[e];rfl)
  have e5:decide (0<c.es.length)=true:=decide_eq_true zac
  have HES:=zH hes
  clear hz hes
  obtain⟨r0,r1,rf0,rf1⟩:=S.out.rs
  go_wp2_with fail
  refine(?_:∀G:World,At2 G res aB aB->RowKit.Below w.heap.size w G->ByV G w.heap.size (ag ts En) F aB aB (.slice gq c.es.length gc)->bodyPost _ _ _ _ _ G) _ (S.out.rs.put aB aB) (S.out.bp2 aB aB) (by rw[<-HE.out];exact S.out.finN HES.out)
  intro G hG hB hV
  obtain⟨y0,y1,-,-⟩:=hG
  rw[HFO.out.1,HFO.out.2] at hV
  exact bodyPost_ret (v:= .tuple #[.agg #[aB,aB],.slice gq c.es.length gc]) (by simp[results,Tryz.results6,go_sem,y0,y1]) rfl ⟨_,_,_,rfl,hV,hB⟩):P:=h
theorem zz39{P:Prop}(h:P:=by
 replace F:=zH (F.out.bel hb)
 replace Xx:=zH (Xx.out.bel hb)
 replace Nx:=zH (fun u hu=>ah.bel hb _ _ (Nx.out u hu))
 replace NX:=zH (ah.bel hb _ _ NX.out)
 clear hb c0 c1 c2 c3 c4 f0 f1 f2 f3 f4 x0 x1 x2 x3 x4 x5 x6 x7 x8 x9
 obtain⟨x0,x1,x2,x3,x4,x5,x6,x7,x8,x9,-,-,-,-,-,-,-,-,-,-⟩:=Xx.out
 obtain⟨c0,c1,c2,c3,c4,f0,f1,f2,f3,f4⟩:=F.out.A
 go_wp2_with fail
 clear c0 c1 c2 c3 c4 f0 f1 f2 f3 f4 x0 x1 x2 x3 x4 x5 x6 x7 x8 x9
 refine(KF.out xa _).mono ?_
 rintro _ v8 ⟨rfl,hb⟩
 replace F:=zH (F.out.bel hb)
 clear hb
 obtain⟨c0,c1,c2,c3,c4,f0,f1,f2,f3,f4⟩:=F.out.A
 obtain⟨n0,n1,n2,n3,n4,n5,n6,n7,n8,n9,m0,m1,m2,m3,m4,m5,m6,m7,m8,m9⟩:=F.out.N
 obtain⟨e0,e1,e2,e3,e4,g0,g1,g2,g3,g4⟩:=F.out.R
 have BV:=zH F.out.B
 obtain rfl:xa=ag ts En u0.pl:=HA.out _ _ NX.out
 go_wp2_with fail
 exact bodyPost_ret (v:= .tuple #[.agg #[zI zL 0,zI zL 0,.string ⟨#[]⟩,zI zL 0,zI zL 0,.bool false,zI zL 0,zI zL 0,zI zL 0,.slice none 0 0],.agg #[.slice p n cap,zI zL (k1:Nat),zI zL En,zI zL 2,zI zL (ag ts En u0.pl)]]) zbz rfl ⟨⟨0,0,⟨#[]⟩,0,0,false,0,0,0,none,0,0⟩,rfl,(fun u hu=>by cases hu),zae⟩):P:=h
theorem zz40{P:Prop}(h:P:=by
 go_enter Tryz.func92,Tryz.ntmps92
 go_wp2_with fail
 change Calls Tryz.prog 86 #[.pointer (some ⟨b,0,none⟩),.func (.func 106) #[] #[]] (w.alloc gD) fun e w'=>_
 generalize w.alloc gD=w1 at *
 have KR:=zH (gH H1.out.2.1 hi hs fE HX.out)
 refine(KR.out).mono ?_
 rintro _ w2 ⟨rfl,h2⟩
 have H2:=zH (St.bel hb H1.out h2)
 clear h2 H1
 clear KR
 go_wp2_with fail
 refine(KC.out _).mono ?_
 rintro _ w3 ⟨rfl,h3⟩
 have H3:=zH (St.bel hb H2.out h3)
 clear h3 H2
 clear KC
 go_wp2_with (first|((with_reducible refine(KD.out _).mono ?_);rintro _ _ ⟨rfl,rfl⟩)|((with_reducible refine(KD2.out _).mono ?_);rintro _ _ ⟨rfl,rfl⟩))
 refine(KA.out _).mono ?_
 rintro _ w4 ⟨rfl,h4⟩
 have H4:=zH (St.bel hb H3.out h4)
 clear h4 H3
 go_wp2_with fail
 refine(KM.out _).mono ?_
 rintro _ w5 ⟨rfl,h5⟩
 have H5:=zH (St.bel hb H4.out h5)
 clear h5 H4
 go_wp2_with fail
 have H6:=zH (St.bel hb H5.out ((Below.refl _ _).alloc (Nat.le_refl _) (.cells #[zI zL n,zI zL d] 31)))
 have KQ:=zH (mi s (bs x) 2 0 n d ⟨#[]⟩ i b _ H6.out.2.1 hi (by rw[HZ.out];omega) hs)
 rw[HZ.out] at KQ
 refine KQ.out.mono ?_
 rintro _ w7 ⟨rfl,h4,h5⟩
 have H7:=zH (St.kept hb H6.out h4 h5)
 clear h4 h5 H6 KQ
 obtain⟨⟨c0,c1,c2,c3,c4⟩,f0,f1,f2,f3,f4⟩:=H7.out.2.2
 go_wp2_with fail
 exact bodyPost_ret (v:= .agg #[zI zL 2,zI zL i,.string ⟨#[]⟩,zI zL n,zI zL d]) (by simp[results,Tryz.results92,go_sem,c0,c1,c2,c3,c4]) rfl ⟨rfl,(H7.out.fin hb _ _ _ _ _).1,(H7.out.fin hb _ _ _ _ _).2⟩):P:=h
theorem zz41{P:Prop}(h:P:=by
 by_cases he:c.es=[]
 ·obtain⟨rfl,h1,ns,h2,h3,h4⟩:=hV.1 he
  have e1:d=c.ds.length:=by rw[<-hd];unfold dN;rw[he];rfl
  have e2:r=c.rs.length:=by rw[<-hr];unfold rN;rw[he];rfl
  have e3:n=0:=by rw[<-hn,he];rfl
  subst e1 e2 e3
  obtain⟨q1,c1,rfl⟩:=aF h1
  obtain⟨q2,c2,rfl⟩:=aF h3
  refine⟨q1,c1,q2,c2,none,0,ns,rfl,⟨fun _ h0=>?_,fun _ h0=>?_,fun _=>h2,fun _ i a b=>?_,fun h0=>?_⟩,hB⟩
  ·obtain⟨g,cap,e,-,-,hrow,-⟩:=jJ h1 h0
   simp only[Value.slice.injEq] at e
   exact⟨g,e.1,hrow⟩
  ·obtain⟨g,cap,e,-,-,hrow,-⟩:=jJ h3 h0
   simp only[Value.slice.injEq] at e
   exact⟨g,e.1,hrow⟩
  ·exact⟨NodeA.keep (Nat.le_refl _) (fun _ _ _=>rfl) (fun _ _ _=>trivial) _ _ (h4 i a b).1,NodeA.keep (Nat.le_refl _) (fun _ _ _=>rfl) (fun _ _ _=>trivial) _ _ (h4 i a b).2⟩
  ·rw[he] at h0;exact absurd h0 zah
 ·obtain⟨rfl,rfl,h1⟩:=hV.2 he
  have hee:c.es.isEmpty=false:=by simpa using he
  have e1:d=0:=by rw[<-hd];unfold dN;rw[hee];rfl
  have e2:r=0:=by rw[<-hr];unfold rN;rw[hee];rfl
  rw[hn] at h1
  subst e1 e2
  obtain⟨q1,c1,rfl⟩:=aF h1
  refine⟨none,0,none,0,q1,c1,[],rfl,⟨fun h=>absurd h he,fun h=>absurd h he,fun h=>absurd h he,fun h=>absurd h he,fun h0=>?_⟩,hB⟩
  obtain⟨g,cap,e,-,-,hrow,-⟩:=jJ h1 zac
  simp only[Value.slice.injEq] at e
  exact⟨g,e.1,hrow⟩):P:=h
theorem Cz{P:Prop}(h:P:=by
 exact(((((((((((Kfr.refl V.heap.size _).set zac 0 none _).set zac 1 none _).set zac 2 none _).set zac 3 none _).set zac 4 none _).set zac 5 none _).set zac 6 none _).set zac 7 none _).set zac 8 none _).set zac 9 none _)):P:=h
theorem zz43{P:Prop}(h:P:=by
 go_enter Tryz.func92,Tryz.ntmps92
 go_wp2_with fail
 change Calls Tryz.prog 86 #[.pointer (some ⟨b,0,none⟩),.func (.func 106) #[] #[]] (w.alloc gD) fun e w'=>_
 generalize w.alloc gD=w1 at *
 have KR:=zH (gH H1.out.2.1 hi hs fE HX.out)
 refine(KR.out).mono ?_
 rintro _ w2 ⟨rfl,h2⟩
 have H2:=zH (St.bel hb H1.out h2)
 clear h2 H1
 clear KR
 go_wp2_with fail
 refine(KC.out _).mono ?_
 rintro _ w3 ⟨rfl,h3⟩
 have H3:=zH (St.bel hb H2.out h3)
 clear h3 H2
 clear KC
 go_wp2_with (first|((with_reducible refine(KD.out _).mono ?_);rintro _ _ ⟨rfl,rfl⟩)|((with_reducible refine(KD2.out _).mono ?_);rintro _ _ ⟨rfl,rfl⟩))
 refine(KA.out _).mono ?_
 rintro _ w4 ⟨rfl,h4⟩
 have H4:=zH (St.bel hb H3.out h4)
 clear h4 H3
 go_wp2_with fail
 refine(KM.out _).mono ?_
 rintro _ w5 ⟨rfl,h5⟩
 have H5:=zH (St.bel hb H4.out h5)
 clear h5 H4
 go_wp2_with fail
 have H6:=zH (St.bel hb H5.out ((Below.refl _ _).alloc (Nat.le_refl _) (.cells #[zI zL n,zI zL d] 31)))
 have KF:=zH (fD s 3 i b _ H6.out.2.1)
 refine KF.out.mono ?_
 rintro _ _ ⟨rfl,rfl⟩
 go_wp2_with fail
 exact aa rfl ⟨rfl,H6.out.1⟩):P:=h
theorem Fa{P:Prop}(h:P:=by
 go_enter Tryz.func75,Tryz.ntmps75
 go_wp2_with fail
 change Code.wp _ _ _ _ (w.alloc gD)
 have b1:=H1.out.2.1.c0
 have b2:=H1.out.2.1.c1
 generalize w.alloc gD=w1 at *
 go_quiet (fail)
 have H2:=zH (St.bel hb H1.out (below_drewN (Below.refl _ _) nq))
 clear H1 b1 b2
 generalize w1.drewN nq=w2 at *
 go_wp2_with (first|((with_reducible refine(KL.out _).mono ?_);rintro _ _ ⟨rfl,rfl⟩)|((with_reducible refine(KD.out _).mono ?_);rintro _ _ ⟨rfl,rfl⟩))
 refine(K.out _ H2.out.2.1).mono ?_
 rintro _ w3 ⟨rfl,h4⟩
 go_wp2_with fail
 exact aa rfl ⟨rfl,H2.out.1.trans h4⟩):P:=h
theorem zz45{P:Prop}(h:P:=by
 refine hK.out _ _ ?_ (fun hHeld=>?_)
 ·exact hS
 clear hK K
 simp only[Act.put]
 refine wpAnyH_done zab ?_ _
 clear hS
 show K0 _ _
 rw[HK0.out]
 exact⟨db,zbc,ldb,D.out.lt (Nat.succ_pos _),F,D⟩):P:=h
theorem Fv{P:Prop}(h:P:=by
 exact⟨NT.out.c0,NT.out.c1,NT.out.c2,NT.out.c3,NT.out.c4,NT.out.c5,NT.out.c6,NT.out.c7,NT.out.c8,NT.out.c9,DT.out.c0,DT.out.c1⟩):P:=h
theorem EI{P:Prop}(h:P:=by
 go_wp2_with fail
 go_quiet (fail)
 go_wp2_with fail
 go_quiet (fail)
 go_wp2_with fail
 go_roundg (s.size-(j+1))
 case measure=>omega
 case rel=>exact⟨j+1,zac,zac,(HI.out.1.bel (below_drewN (Below.refl _ _) _)).setCell 1 none _,(HI.out.2.1.bel (below_drewN (Below.refl _ _) _)).set _,HG2.out⟩):P:=h
theorem zz48{P:Prop}(h:P:=by
 refine(KV.out _).mono ?_
 rintro _ w5 ⟨rfl,h5⟩
 have B5:=zH (B1.out.bel h5)
 clear h5
 have c:=B5.out.2
 obtain⟨⟨c0,c1,c2,c3,c4⟩,f0,f1,f2,f3,f4⟩:=c
 have L:w.heap.size<w5.heap.size:=World.block_lt_of_cell? _ _ c0
 have BB:RowKit.Below w.heap.size w w5:=B5.out.1
 have hz:=BB.size
 go_wp2_with fail
 exact bodyPost_ret (v:= .tuple #[.agg #[zI zL 2,zI zL i,.string ⟨#[]⟩,zI zL a,zI zL b],zI zL (k:Nat),zI zL 0]) (by simp[results,Tryz.results39,go_sem,c0,c1,c2,c3,c4,aW,L]) rfl ⟨rfl,zay⟩):P:=h
theorem zz49{P:Prop}(h:P:=by
 refine(uJ ts q b 0 cap n k' En e1 O1 _ S.out.tk zac).mono ?_
 rintro _ v5 ⟨rfl,hb⟩
 replace S:=zH (S.out.bl hb)
 clear hb c0 c1 c2 c3 c4 f0 f1 f2 f3 f4 d0 d1 df0 df1
 obtain⟨c0,c1,c2,c3,c4,f0,f1,f2,f3,f4⟩:=S.out.A
 have hsk2:n-(skip (ts.drop k')).length<=n:=Nat.sub_le _ _
 obtain⟨k2,hk2⟩:∃x,x=n-(skip (ts.drop k')).length:=⟨_,rfl⟩
 have hds:skip (ts.drop k')=ts.drop k2:=by rw[hk2,<-hl];exact tL ts k'
 have HDS:=zH hds
 rw[<-hk2]
 have hk2n:k2<=n:=zac
 have hm:n-k2<n-k:=by
  have:=hsk
  rw[hds,List.length_drop,hl] at this
  omega
 clear hsk hsk2 hds hk2
 go_wp2_with fail
 go_roundg (n-k2)
 case measure=>omega
 case rel=>exact⟨k2,gx',0,_,_,_,_,Nat.le_refl _,zH (S.out.st k2 0 0 hk2n),by show _=_;rw[<-HDS.out];exact HG.out⟩):P:=h
theorem zz50{P:Prop}(h:P:=by
 refine(KV.out _).mono ?_
 rintro _ w5 ⟨rfl,h5⟩
 have B5:=zH (B1.out.bel h5)
 clear h5
 have c:=B5.out.2
 obtain⟨⟨c0,c1,c2,c3,c4⟩,f0,f1,f2,f3,f4⟩:=c
 have L:w.heap.size<w5.heap.size:=World.block_lt_of_cell? _ _ c0
 have BB:RowKit.Below w.heap.size w w5:=B5.out.1
 have hz:=BB.size
 go_wp2_with fail
 exact bodyPost_ret (v:= .tuple #[.agg #[zI zL 0,zI zL 0,.string ⟨#[]⟩,zI zL 0,zI zL 0],zI zL 0,zI zL E]) (by simp[results,Tryz.results39,go_sem,c0,c1,c2,c3,c4,aW,L]) rfl ⟨rfl,zay⟩):P:=h
theorem ED{P:Prop}(h:P:=by
 exact((((((((((S4.out.other (Nat.le_refl _) 0 _).other (Nat.le_refl _) 1 _).other (Nat.le_refl _) 2 _).other (Nat.le_refl _) 3 _).other (Nat.le_refl _) 4 _).other (Nat.le_refl _) 5 _).other (Nat.le_refl _) 6 _).other (Nat.le_refl _) 7 _).other (Nat.le_refl _) 8 _).other (Nat.le_refl _) 9 _)):P:=h
theorem zz52{P:Prop}(h:P:=by
 have HB:Below w.heap.size w w1:=(((Below.refl _ _).alloc (Nat.le_refl _) _).alloc (by simp) _).trans (hb.mono zai)
 have c0:w1.cell? ⟨w.heap.size,0,none⟩=some (zI zL 0):=(hc _ _ zai).trans (by simp)
 have c1:w1.cell? ⟨w.heap.size,1,none⟩=some (zI zL 0):=(hc _ _ zai).trans (by simp)
 have c2:w1.cell? ⟨w.heap.size+1,0,none⟩=some (zI zL 0):=(hc _ _ (by simp)).trans (by simp)
 refine leaves_cons (f:=118) (args:=#[.pointer (some ⟨w.heap.size,0,none⟩),.pointer (some ⟨w.heap.size+1,0,none⟩)]) (by simp) (by simp[go_sem]) ?_
 refine(ll _ _ _).mono ?_
 rintro e u' w'' ⟨rfl,rfl,rfl⟩
 simp[Leaves,settle,results,Tryz.results110,go_sem,c0,c1,c2]
 repeat' (first|exact HB|refine Below.setCell ?_ (by simp) _)):P:=h
theorem EM{P:Prop}(h:P:=by
 intro w' hSw
 exact aY rfl rfl (aS _ 5 zab zab w' w.heap.size _ rfl hSw.out.2.row)):P:=h
theorem Cw{P:Prop}(h:P:=by
 exact(by refine⟨⟨?_,?_,?_,?_,?_,?_,?_,?_,?_,?_⟩,⟨?_,?_,?_,?_,?_⟩⟩<;>simp[go_sem,x0,x1,x2,x3,x4,x5,x6,x7,x8,x9,c0,c1,c2,c3,c4])):P:=h
theorem Fy{P:Prop}(h:P:=by
 exact(by
 have DA0:=D7.out.bel (by simp) ((Below.refl v7.heap.size v7).alloc (Nat.le_refl _) (.cells #[.string (bs nm),.bool (uF u),zI zL (uM u),zI zL (uA u),zI zL (uD u),zI zL lo,zI zL hi,zI zL at0] 45)).drew
 exact⟨(DA0 0 _ rfl).1,(DA0 1 _ rfl).1,(DA0 2 _ rfl).1,(DA0 3 _ rfl).1,(DA0 4 _ rfl).1,(DA0 5 _ rfl).1,(DA0 6 _ rfl).1,(DA0 7 _ rfl).1⟩)):P:=h
theorem zz56{P:Prop}(h:P:=by
 go_enter Tryz.func92,Tryz.ntmps92
 go_wp2_with fail
 change Calls Tryz.prog 86 #[.pointer (some ⟨b,0,none⟩),.func (.func 106) #[] #[]] (w.alloc gD) fun e w'=>_
 generalize w.alloc gD=w1 at *
 have KR:=zH (gH H1.out.2.1 hi hs fE HX.out)
 refine(KR.out).mono ?_
 rintro _ w2 ⟨rfl,h2⟩
 have H2:=zH (St.bel hb H1.out h2)
 clear h2 H1
 clear KR
 go_wp2_with fail
 refine(KC.out _).mono ?_
 rintro _ w3 ⟨rfl,h3⟩
 have H3:=zH (St.bel hb H2.out h3)
 clear h3 H2
 clear KC
 go_wp2_with ((with_reducible refine(KD.out _).mono ?_);rintro _ _ ⟨rfl,rfl⟩)
 have KF:=zH (fD s 8 i b _ H3.out.2.1)
 refine KF.out.mono ?_
 rintro _ _ ⟨rfl,rfl⟩
 go_wp2_with fail
 exact aa rfl ⟨rfl,H3.out.1⟩):P:=h
theorem zz57{P:Prop}(h:P:=by
 go_wp2_with fail
 refine KP.out.mono ?_
 rintro _ v ⟨rfl,hb⟩
 have NB:v.heap.size≠b:=zam
 have S1:=zH ((S0.out.bel hb).alloc (kK tk ta tn td (bs tt)))
 have X:=zH (B5.new v (zI zL tk) (zI zL ta) (.string (bs tt)) (zI zL tn) (zI zL td) 86)
 clear hb KP S0
 unfold kK at S1
 obtain⟨x0,x1,x2,x3,x4,-,-,-,-,-⟩:=X.out
 go_wp2_with fail
 generalize v.alloc (.cells #[zI zL tk,zI zL ta,.string (bs tt),zI zL tn,zI zL td] 86)=v1 at *
 refine(KF.out _ S1.out.rd).mono ?_
 rintro _ _ ⟨rfl,hb2⟩
 have S2:=zH (S1.out.bel hb2)
 go_wp2_with fail
 exact aa rfl (ak.bad rfl S2.out)):P:=h
theorem xM{P:Prop}(h:P:=by
 go_wp2
 go_ret
 exact⟨aD (by rw[Bool.eq_iff_iff];first|(simp;done)|(simp;omega)),rfl⟩):P:=h
theorem Cy{P:Prop}(h:P:=by
 intro w' hSw
 exact aY rfl rfl (aS _ 10 zab zab w' blx _ rfl hSw.out.1.row)):P:=h
theorem zz60{P:Prop}(h:P:=by
 go_enter Tryz.func81,Tryz.ntmps81
 go_wp2_with (first|(go_at_call 96;refine(ko _ _ zac zac).mono ?_;rintro e w' ⟨rfl,rfl⟩)|(go_at_call 95;refine(iQ _ _ _ zac zac).mono ?_;rintro e w' ⟨rfl,rfl⟩))
 exact bodyPost_ret (v:= .tuple #[.agg #[zI zL (-(x:Int)),zI zL y],zI zL 0]) zdb rfl ⟨rfl,zan⟩):P:=h
theorem D9{P:Prop}(h:P:=by
 go_wp2
 go_ret
 exact⟨rfl,(by repeat' (first|exact Below.refl _ _|refine below_drewN ?_ _|refine Below.alloc ?_ zar _))⟩):P:=h
theorem zz62{P:Prop}(h:P:=by
 go_enter Tryz.func81,Tryz.ntmps81
 go_wp2_with (first|(go_at_call 96;refine(ko _ _ zac zac).mono ?_;rintro e w' ⟨rfl,rfl⟩)|(go_at_call 95;refine(iQ _ _ _ zac zac).mono ?_;rintro e w' ⟨rfl,rfl⟩))
 exact bodyPost_ret (v:= .tuple #[.agg #[zI zL x,zI zL y],zI zL 0]) zdb rfl ⟨rfl,zan⟩):P:=h
theorem zz63{P:Prop}(h:P:=by
 go_enter Tryz.func81,Tryz.ntmps81
 go_wp2_with (first|(go_at_call 96;refine(ko _ _ zac zac).mono ?_;rintro e w' ⟨rfl,rfl⟩)|(go_at_call 95;refine(iQ _ _ _ zac zac).mono ?_;rintro e w' ⟨rfl,rfl⟩))
 exact bodyPost_ret (v:= .tuple #[.agg #[zI zL 0,zI zL 0],zI zL 3]) zdb rfl ⟨rfl,zan⟩):P:=h
theorem Fj{P:Prop}(h:P:=by
 exact(((((((((((Kfr.refl (w.heap.size+1) _).set zac 0 none _).set zac 1 none _).set zac 2 none _).set zac 3 none _).set zac 4 none _).set zac 5 none _).set zac 6 none _).set zac 7 none _).set zac 8 none _).set zac 9 none _)):P:=h
theorem zz65{P:Prop}(h:P:=by
 have hks:i+k<s.size:=zac
 have hltz:(i:Int)+(k:Int)<(s.size:Int):=zac
 have KP:Hid (∀w:World,Calls Tryz.prog 64 #[.int .u8 s[i+k].toNat,.bool false] w fun e w'=>e = .returned (.bool true)/\w'=w):=fun w=>by
  have:=eB s[i+k] false w
  rw[show prt false s[i+k]=true by rw[hget.out k hks];exact I1.out k hlt] at this
  exact this
 go_wp2_with (refine(KP.out _).mono ?_;rintro _ _ ⟨rfl,rfl⟩)
 go_roundg (m-(k+1))
 case measure=>omega
 case rel=>exact⟨k+1,by go_num,zac,zac,rfl⟩):P:=h
theorem zz66{P:Prop}(h:P:=by
 have hks:i+k<s.size:=zac
 have hltz:(i:Int)+(k:Int)<(s.size:Int):=zac
 have KP:Hid (∀w:World,Calls Tryz.prog 64 #[.int .u8 s[i+k].toNat,.bool true] w fun e w'=>e = .returned (.bool true)/\w'=w):=fun w=>by
  have:=eB s[i+k] true w
  rw[show prt true s[i+k]=true by rw[hget.out k hks];exact I1.out k hlt] at this
  exact this
 go_wp2_with (refine(KP.out _).mono ?_;rintro _ _ ⟨rfl,rfl⟩)
 go_roundg (m-(k+1))
 case measure=>omega
 case rel=>exact⟨k+1,by go_num,zac,zac,rfl⟩):P:=h
theorem zz67{P:Prop}(h:P:=by
 have hp:=h.hp2 vd vr
 refine⟨fun _=>⟨rfl,jD (aR h.cx.dr (fun j hj _=>hp j (h.cx.dr.lt j hj).1)) zac,ns,h.cx.nl,jD (aR h.cx.rr (fun j hj _=>hp j (h.cx.rr.lt j hj).1)) zac,fun i h1 h2=>?_⟩,fun e=>absurd he e⟩
 exact⟨NodeA.keep zbb (fun j hj _=>hp j hj.1) (fun j hj _=>(by show _<=j;have:=hj.1;omega)) _ _ (h.cx.nd i h1 h2).1,NodeA.keep zbb (fun j hj _=>hp j hj.1) (fun j hj _=>(by show _<=j;have:=hj.1;omega)) _ _ (h.cx.nd i h1 h2).2⟩):P:=h
theorem zz68{P:Prop}(h:P:=by
 go_enter Tryz.func119,Tryz.ntmps119
 go_wp2
 go_quiet ((go_at_call 128;exact Calls.quiet_of_same (jl _ _ zac zac)))
 go_wp2_with (go_at_call 129;refine(fF _ _ _ zac zac).mono ?_;rintro e w' ⟨rfl,k,rfl⟩)
 go_quiet (fail)
 go_wp2
 exact bodyPost_ret (v:= .agg #[zI zL (-(x:Int)),zI zL y]) (by simp[results,Tryz.results119,go_sem]) rfl ⟨rfl,zbf⟩):P:=h
theorem zz69{P:Prop}(h:P:=by
 simp only[hq] at KQ
 replace HR:=zH HR2
 clear HR2
 go_wp2_with fail
 refine fQ mixed zab ?_
 repeat (go_big_quiet_step ((with_reducible refine Calls.bw_of (KQ.out _))))
 refine wpQuiet_nil ?_
 intro W HW
 replace HW:=wH HW
 clear z0 z1 z2 z3 z4 z5 z6 z7 z8 z9 q0 q1 q2 q3 q4 q5 q6 q7 q8 q9 X9 Y9 KQ
 have HF:=zH (HV.out.trans (HW.mono HV.out.size))
 clear HW
 go_wp2_with fail
 go_roundg (kl-(i+1))
 case measure=>omega
 case rel=>exact⟨i+1,zac,Nat.le_refl _,by first|rfl|simp,HR,HF⟩):P:=h
theorem zz70{P:Prop}(h:P:=by
 go_enter Tryz.func119,Tryz.ntmps119
 go_wp2
 go_quiet ((go_at_call 128;exact Calls.quiet_of_same (jl _ _ zac zac)))
 go_wp2_with (go_at_call 129;refine(fF _ _ _ zac zac).mono ?_;rintro e w' ⟨rfl,k,rfl⟩)
 go_quiet (fail)
 go_wp2
 exact bodyPost_ret (v:= .agg #[zI zL x,zI zL y]) (by simp[results,Tryz.results119,go_sem]) rfl ⟨rfl,zbf⟩):P:=h
theorem Cu{P:Prop}(h:P:=by
 have SE:=zH (S1.out.call hkp hrd)
 go_wp2_with fail
 exact aa rfl (dW.er HO.out.symm rfl hm SE.out)):P:=h
theorem zz72{P:Prop}(h:P:=by
 go_enter Tryz.func50,Tryz.ntmps50
 go_wp2_with fail
 generalize w.alloc (.cells #[zI zL xo,zI zL xa,.string xs,zI zL xn,zI zL xd,.bool xf,zI zL xm,zI zL xr,zI zL xy,.slice xq xk xc] 36)=v at *
 refine(KM.out _ HX.out).mono ?_
 rintro _ v2 ⟨rfl,hb2⟩
 have HB2:=zH (HB.out.trans (hb2.mono HB.out.size))
 have x1:=(X.out.bel hb2).c1
 clear hb2 HX KM X
 go_wp2_with fail
 refine(lD _ _ _).mono ?_
 rintro _ _ ⟨rfl,rfl⟩
 go_wp2_with fail
 exact aa rfl ⟨rfl,HB2.out⟩):P:=h
theorem zz73{P:Prop}(h:P:=by
 simp only[hq] at KQ
 have HE:Hid (R=false):=by show _=_;rw[<-HR2];rfl
 clear HR2
 go_wp2_with fail
 refine fQ mixed zab ?_
 repeat (go_big_quiet_step ((with_reducible refine Calls.bw_of (KQ.out _))))
 refine wpQuiet_nil ?_
 intro W HW
 replace HW:=wH HW
 clear z0 z1 z2 z3 z4 z5 z6 z7 z8 z9 q0 q1 q2 q3 q4 q5 q6 q7 q8 q9 X9 Y9 KQ
 have HF:=zH (HBw.out.trans (HW.mono HBw.out.size))
 clear HW
 go_wp2_with fail
 go_ret
 exact⟨aD HE.out.symm,HF.out⟩):P:=h
theorem EF{P:Prop}(h:P:=by
 exact(by refine⟨⟨?_,?_,?_,?_,?_,?_,?_,?_,?_,?_⟩,⟨?_,?_,?_,?_,?_⟩⟩<;>simp[go_sem,z0,z1,z2,z3,z4,z5,z6,z7,z8,z9,u0,u1,u2,u3,u4])):P:=h
theorem zz75{P:Prop}(h:P:=by
 intro F hF hS hK
 obtain⟨y0,y1,y2,y3,y4,y5,y6,y7,y8,y9,-,-,-,-,-,-,-,-,-,-⟩:=hF
 exact bodyPost_ret (v:= .agg #[zI zL xo,zI zL xa,.string xs,zI zL xn,zI zL xd,.bool xf,zI zL xm,zI zL xr,zI zL xy,.slice xq xk xc]) zbs rfl (ak.ok rfl ⟨⟨xo,xa,xs,xn,xd,xf,xm,xr,xy,xq,xk,xc⟩,rfl,ah.keep hK zac _ _ HN.out⟩ hS)):P:=h
theorem zz76{P:Prop}(h:P:=by
 have e10:((s[k].toNat:Int)==10)=true:=zai
 have e35:((s[k].toNat:Int)==35)=false:=zai
 have H2:Hid (k+1+gp false (l.drop (k+1))=G):=by have:=HI.out;rw[hd,Dr _ _ h10] at this;show _=_;omega
 clear hd hc h10
 go_wp2_with ((with_reducible refine(KB.out _).mono ?_);rintro _ _ ⟨rfl,rfl⟩)
 go_roundg (N-(k+1))
 case measure=>omega
 case rel=>exact⟨k+1,false,by go_num,rfl,zac,zac,H2,rfl⟩):P:=h
theorem zz77{P:Prop}(h:P:=by
 go_enter Tryz.func119,Tryz.ntmps119
 go_wp2
 go_quiet ((go_at_call 128;exact Calls.quiet_of_same (jl _ _ zac zac)))
 go_wp2_with (go_at_call 129;refine(fF _ _ _ zac zac).mono ?_;rintro e w' ⟨rfl,k,rfl⟩)
 go_quiet (fail)
 go_wp2
 exact aa rfl ⟨rfl,zbf⟩):P:=h
theorem Cv{P:Prop}(h:P:=by
 exact((h1 w _).trans ((h1 _ _).mono (by rw[s1];omega))).trans ((h1 _ _).mono (by rw[s1,s1];omega))):P:=h
theorem Eb{P:Prop}(h:P:=by
 exact⟨⟨rfl,rfl,rfl,rfl,rfl,rfl,rfl,rfl,rfl,rfl⟩,0,0,fun h=>absurd h (by simp),by simp only[bQ]⟩):P:=h
theorem Dy{P:Prop}(h:P:=by
 have SE:=zH (S2.out.call hkp hrd)
 go_wp2_with fail
 exact aa rfl (dW.er HO.out.symm rfl hm SE.out)):P:=h
theorem zz81{P:Prop}(h:P:=by
 have e35:((s[k].toNat:Int)==35)=true:=zai
 have H2:Hid (k+1+gp true (l.drop (k+1))=G):=by have:=HI.out;rw[hd,Ap _ _ h35] at this;show _=_;omega
 clear hd hc h35
 go_wp2_with ((with_reducible refine(KB.out _).mono ?_);rintro _ _ ⟨rfl,rfl⟩)
 go_roundg (N-(k+1))
 case measure=>omega
 case rel=>exact⟨k+1,true,by go_num,rfl,zac,zac,H2,rfl⟩):P:=h
theorem EA{P:Prop}(h:P:=by
 repeat' (first|(with_reducible exact Kfr.refl _ _)|(with_reducible refine Kfr.drew ?_)|(with_reducible refine Kfr.set ?_ zac _ _ _))):P:=h
theorem zz83{P:Prop}(h:P:=by
 intro e v3 hp
 replace hp:=dW.pre S2.out.kp hp
 clear KX HC2 HCk
 cases O with
 | ok d r =>
  obtain⟨k',vd',vr',ns',rfl,hp⟩:=hp
  have HP:=zH hp
  clear hp
  go_wp2_with fail
  go_end0
  exact⟨k',vd',vr',ns',rfl,HP.out⟩
 | er E q m =>
  obtain⟨k',rfl,hp⟩:=hp
  have HP:=zH hp
  clear hp
  go_wp2_with fail
  exact aa rfl ⟨k',rfl,HP.out⟩):P:=h
theorem zz84{P:Prop}(h:P:=by
 rcases ho with e|e
 ·exact⟨gx,key gx (.inl rfl) (fun j hj=>h.gb j (by rw[<-e];exact hj)) (Nat.lt_of_lt_of_le h.gl hg.size) h.gd h.gr⟩
 ·refine⟨W.heap.size,key _ (.inr rfl) (fun j hj=>by rw[e] at hj;injection hj with hj;exact hj.symm) (hown.lt _ e).2 (fun e2=>?_) (fun e2=>?_)⟩
  ·have:=(h.cx.dr.lt _ e2).2;omega
  ·have:=(h.cx.rr.lt _ e2).2;omega):P:=h
theorem zz85{P:Prop}(h:P:=by
 obtain⟨d,hd,hd2⟩:=Option.map_eq_some_iff.1 hu
 obtain⟨i,hi1,hi2⟩:=Option.map_eq_some_iff.1 hi
 subst hl
 have hagg:(isAgg T).run Tryz.prog w = .ok true w:=by
  unfold isAgg
  rw[Sem.run_bind,run_underlying hd w]
  cases d<;>simp_all
 simp[Instr.loadAt,Instr.sureAddr,loadVar,Sem.run_bind,hagg,sizeOf,typeInfo,hi1,hi2,hc]):P:=h
theorem zz86{P:Prop}(h:P:=by
 refine dX (T:=36) [u0,m] [⟨xo,xa,xs,xn,xd,xf,xm,xr,xy,xq,xk,xc⟩,⟨yo,ya,ys,yn,yd,yf,ym,yr,yy,yq,yk,yc⟩] op (n-k) 2 rfl ?_ (fun i h h'=>match i,h with
  | 0,_=>NodeA.bel hb4 _ _ (Nx.out u0 rfl)
  | 1,_=>NodeA.bel hb4 _ _ (Ny.out m hm)) (heap_alloc_new VE _)
 exact⟨⟨zac,zac⟩,zac⟩):P:=h
theorem zz87{P:Prop}(h:P:=by
 refine hb _ zaf ?_
 exact ze (by simp)):P:=h
theorem zz88{P:Prop}(h:P:=by
 refine dX (T:=36) [u0,m] [⟨xo,xa,xs,xn,xd,xf,xm,xr,xy,xq,xk,xc⟩,⟨yo,ya,ys,yn,yd,yf,ym,yr,yy,yq,yk,yc⟩] op (n-k) 2 rfl ?_ (fun i h h'=>match i,h with
  | 0,_=>NodeA.bel hb4 _ _ (Nx.out u0 rfl)
  | 1,_=>NodeA.bel hb4 _ _ (Ny.out m hm)) (heap_alloc_new V2 _)
 exact⟨zac,zac⟩):P:=h
theorem zz89{P:Prop}(h:P:=by
 exact bodyPost_ret (v:= .tuple #[.agg #[zI zL 1,zI zL i,.string (bs x),zI zL 0,zI zL 0],zI zL (k:Nat),zI zL 0]) zcn rfl ⟨rfl,zbe⟩):P:=h
theorem Ed{P:Prop}(h:P:=by
 clear hr
 go_enter Tryz.func60,Tryz.ntmps60
 go_wp2
 go_ret
 exact⟨aD HR.out.symm,rfl⟩):P:=h
theorem zz91{P:Prop}(h:P:=by
 exact bodyPost_ret (v:= .tuple #[.agg #[zI zL 0,zI zL 0,.string ⟨#[]⟩,zI zL 0,zI zL 0],zI zL 0,zI zL 2]) zcn rfl ⟨rfl,zbe⟩):P:=h
theorem zz92{P:Prop}(h:P:=by
 replace F:=zH hF
 replace D:=zH (D.out.call (Nat.succ_pos _) hK zac)
 clear hF hK c0 c1 c2 c3 c4 f0 f1 f2 f3 f4
 refine Handed.intro 0 zah (HJ.out 0 _ _ ?_)
 rw[HK0.out]
 exact⟨db,nmv,vrv,acv,frv,unv,zbc,hdb,D.out.lt (Nat.succ_pos _),F,D,Hnmv,Hvrv,Hacv,Hfrv,Hunv⟩):P:=h
theorem EP{P:Prop}(h:P:=by
 have S2:=zH (S0.out.call hkp hrd)
 go_wp2_with fail
 exact aa rfl (ak.er rfl rfl hm S2.out)):P:=h
theorem EJ{P:Prop}(h:P:=by
 intro w' hSw
 exact aY rfl rfl (aS _ 10 zab zab w' bly _ rfl hSw.out.2.1.row)):P:=h
theorem zz95{P:Prop}(h:P:=by
 have hz:¬(i:Int)<(kl:Int):=zac
 have hie:i=kl:=zac
 subst hie
 have HE:Hid (R=true):=by
  show _=_
  rw[<-HR.out,List.drop_eq_nil_of_le zac,List.drop_eq_nil_of_le zac]
  simp[eqL]
 go_wp2_with fail
 go_ret
 exact⟨aD HE.out.symm,HBw.out⟩):P:=h
theorem zz96{P:Prop}(h:P:=by
 replace F:=zH hF
 replace D:=zH (D.out.call (Nat.succ_pos _) hK zac)
 clear hF hK c0 c1 c2 c3 c4 f0 f1 f2 f3 f4
 refine Handed.intro 0 zah (HJ.out 0 _ _ ?_)
 rw[HK0.out]
 exact⟨db,nmv,vrv,acv,zbc,hdb,D.out.lt (Nat.succ_pos _),F,D,Hnmv,Hvrv,Hacv⟩):P:=h
theorem EY{P:Prop}(h:P:=by
 repeat' (first|(with_reducible exact HK4.out)|(with_reducible refine Kfr.drew ?_)|(with_reducible refine Kfr.set ?_ zac _ _ _)|exact HK4.out)):P:=h
theorem zz98{P:Prop}(h:P:=by
 exact((((((((((S3.out.other (Nat.le_refl _) 0 _).other (Nat.le_refl _) 1 _).other (Nat.le_refl _) 2 _).other (Nat.le_refl _) 3 _).other (Nat.le_refl _) 4 _).other (Nat.le_refl _) 5 _).other (Nat.le_refl _) 6 _).other (Nat.le_refl _) 7 _).other (Nat.le_refl _) 8 _).other (Nat.le_refl _) 9 _)):P:=h
theorem zz99{P:Prop}(h:P:=by
 exact(((((((((((Kfr.refl v1.heap.size _).set zac 0 none _).set zac 1 none _).set zac 2 none _).set zac 3 none _).set zac 4 none _).set zac 5 none _).set zac 6 none _).set zac 7 none _).set zac 8 none _).set zac 9 none _)):P:=h
theorem Dz{P:Prop}(h:P:=by
 intro G hG hV hB
 obtain⟨y0,y1,-,-⟩:=hG
 exact bodyPost_ret (v:= .tuple #[.agg #[aB,aB],.slice (some ⟨V.heap.size,0,none⟩) 1 1]) (by simp[results,Tryz.results5,go_sem,y0,y1]) rfl ⟨_,_,_,rfl,by rw[<-HN.out];exact hV,by rw[<-HN.out];exact hB⟩):P:=h
theorem DU{P:Prop}(h:P:=by
 go_enter Tryz.func64,Tryz.ntmps64
 go_wp2_with (first|((with_reducible refine(K.out _).mono ?_);rintro _ _ ⟨rfl,rfl⟩)|((with_reducible refine(K2.out _).mono ?_);rintro _ _ ⟨rfl,rfl⟩))
 go_ret
 exact⟨aD (by rw[HR.out];simp[HH.out]),rfl⟩):P:=h
theorem CZ{P:Prop}(h:P:=by
 go_enter Tryz.func64,Tryz.ntmps64
 go_wp2_with (first|((with_reducible refine(K.out _).mono ?_);rintro _ _ ⟨rfl,rfl⟩)|((with_reducible refine(K2.out _).mono ?_);rintro _ _ ⟨rfl,rfl⟩))
 go_ret
 exact⟨aD (by rw[HR.out];simp),rfl⟩):P:=h
theorem BZ{P:Prop}(h:P:=by
 rw[hW,aW _ _ _ (by show w.heap.size<_;rw[s1,s1];omega),aW _ _ _ (by show w.heap.size<_;rw[s1];omega)];simp):P:=h
theorem Eh{P:Prop}(h:P:=by
 obtain⟨k,E,O⟩:=σ
 by_cases h0:E=0
 ·subst h0
  rw[if_pos rfl]
  exact bM kinds ts p p2 b off cap n k b2 0 cap2 7 En O w hS hL
 ·rw[if_neg h0]
  exact iA kinds ts p p2 b off cap n k b2 0 cap2 7 En E O w hS hL h0):P:=h
theorem DD{P:Prop}(h:P:=by
 go_wp2_with fail
 go_roundg (n-(j+1))
 case measure=>omega
 case rel=>exact⟨j+1,Nat.le_refl _,zac,XA.out.set1 _,XR.out.other zac 1 none _,XB.out.setCell (p:=⟨w.heap.size,1,none⟩) (Nat.le_refl _) _,HE2⟩):P:=h
theorem Ch{P:Prop}(h:P:=by
 have:=List.all_eq_true.1 hta _ (List.getElem_mem hi2)
 rw[List.getElem_take] at this
 rw[jP zac];exact this):P:=h
theorem CF{P:Prop}(h:P:=by
 induction a with
 | nil=>exact List.nil_prefix
 | cons c a ih =>
  rw[List.all_cons,Bool.and_eq_true] at ha
  rw[List.cons_append,List.takeWhile_cons,ha.1,if_pos rfl]
  exact(List.cons_prefix_cons.2 ⟨rfl,ih ha.2⟩)):P:=h
theorem Dx{P:Prop}(h:P:=by
 by_cases h33:c.toNat=33
 ·rw[if_pos h33,hR,Dc r h33]
 ·rw[if_neg h33]
  by_cases h6:c.toNat=60\/c.toNat=62
  ·rw[if_pos h6,hR,FB r h6]
  ·rw[if_neg h6,hR,Du r h33 zac zac]):P:=h
theorem Dv{P:Prop}(h:P:=by
 go_enter Tryz.func105,Tryz.ntmps105
 go_wp2_with (first|(refine(K.out _).mono ?_;rintro _ _ ⟨rfl,rfl⟩)|(refine(K2.out _).mono ?_;rintro _ _ ⟨rfl,rfl⟩))
 go_ret
 exact⟨aD zbu,rfl⟩):P:=h
theorem DC{P:Prop}(h:P:=by
 rw[hd]
 by_cases h:gp false (s.data.toList.drop (j+n))=(s.data.toList.drop (j+n)).length
 ·rw[List.drop_eq_nil_of_le zac];rfl
 ·exact(fM _ _ (by rw[List.length_drop,ay] at h |-;omega)).1):P:=h
theorem Al{P:Prop}(h:P:=by
 have SE:=zH (S2.out.call hkp hrd)
 go_wp2_with fail
 exact aa rfl (ak.er HO.out.symm rfl hm SE.out)):P:=h
theorem Cb{P:Prop}(h:P:=by
 have SE:=zH (S4.out.call hkp hrd)
 go_wp2_with fail
 exact aa rfl (ak.er HO.out.symm rfl hm SE.out)):P:=h
theorem Az{P:Prop}(h:P:=by
 have SE:=zH (S0.out.call hkp hrd)
 go_wp2_with fail
 exact aa rfl (ak.er HO.out.symm rfl hm SE.out)):P:=h
theorem AO{P:Prop}(h:P:=by
 exact zH (D7.out.bel zac ((Below.refl v7.heap.size v7).alloc (Nat.le_refl _) (.cells LL.toArray 49)).drew)):P:=h
theorem AJ{P:Prop}(h:P:=by
 intro w' hSw
 exact aY rfl rfl (aS _ 5 zab zab w' w.heap.size _ rfl hSw.out.row)):P:=h
theorem El{P:Prop}(h:P:=by
 injection h with h1 h2
 subst h1 h2
 refine⟨zac,zac,[],?_⟩
 rw[show i+gp false l-i=gp false l from zac]
 exact jT (by rw[kG l false _ (Nat.le_refl _),List.length_take];omega)):P:=h
theorem Em{P:Prop}(h:P:=by
 simp only[List.drop_zero,Nat.zero_add]
 by_cases h:gp false s.data.toList=s.data.toList.length
 ·rw[List.drop_eq_nil_of_le zac];rfl
 ·exact(fM _ _ (by rw[ay] at h |-;omega)).1):P:=h
theorem Ev{P:Prop}(h:P:=by
 split at h2
 ·cases h2
 ·rename_i hb
  simp only[Out.ok.injEq] at h2
  obtain⟨rfl,-⟩:=h2
  unfold big at hb
  simp only[Bool.or_eq_true,decide_eq_true_eq,not_or] at hb
  omega):P:=h
theorem DV{P:Prop}(h:P:=by
 unfold gof
 obtain⟨n,hn⟩:∃n,ts.length=n+1:=⟨ts.length-1,zac⟩
 rw[hn,go,if_neg zac,hi]
 rw[<-hn]
 exact A7 _ _ _ _ zac (Nat.le_refl _)):P:=h
theorem Dt{P:Prop}(h:P:=by
 go_wp2_with fail
 refine(dI _ S1.out.rd).mono ?_
 rintro _ v2 ⟨rfl,hb⟩
 have S2:=zH (S1.out.bel hb)
 go_wp2_with fail
 exact aa rfl (ak.bad rfl S2.out)):P:=h
theorem CQ{P:Prop}(h:P:=by
 rw[Bool.and_eq_true,Bool.or_eq_true,decide_eq_true_eq] at hf
 refine⟨hf.1,?_⟩
 by_cases h:behind x=[]
 ·exact Or.inl h
 ·exact Or.inr ⟨h,hf.2.resolve_left h⟩):P:=h
theorem C9{P:Prop}(h:P:=by
 have:=wL (s.extract i s.size) c r w (by rw[Lib.extract_to_end,hl,hcr]) (by rw[mr hl,aP];omega)
 rw[<-hcr,hk] at this
 exact this):P:=h
theorem Ea{P:Prop}(h:P:=by
 go_wp2_with fail
 refine(KN.out _).mono ?_
 rintro _ v ⟨rfl,hb⟩
 have HB:=zH hb
 go_wp2_with fail
 exact aa rfl ⟨rfl,HB.out⟩):P:=h
theorem CJ{P:Prop}(h:P:=by
 rw[if_pos e,Nat.add_comm 1,List.drop_succ_cons,List.take_succ_cons]
 refine⟨h1,fun x=>?_⟩
 rw[List.cons_append,gp,if_pos e,h2];omega):P:=h
theorem Dw{P:Prop}(h:P:=by
 exact⟨fun e=>absurd e he,fun _=>⟨rfl,rfl,jD (aR h.rg (fun j hj _=>h.hp2 aB aB j (h.rg.lt j hj).1)) zac⟩⟩):P:=h
theorem Eu{P:Prop}(h:P:=by
 obtain⟨z0,z1,z2,z3,z4,z5,z6,z7,z8,z9,y0,y1,y2,y3,y4,y5,y6,y7,y8,y9⟩:=Xz.out
 refine wpAnyH_ready (rs:=[10]) zab (by simp) (Ei (fun K hK=>?_) AllReadyH.nil)
 go_simp
 clear z0 z1 z2 z3 z4 z5 z6 z7 z8 z9 y0 y1 y2 y3 y4 y5 y6 y7 y8 y9
 have hkz:=Kept.set10 (Kept.refl blz VF) (zI zL op) (zI zL at0) (.string ⟨#[]⟩) (zI zL 0) (zI zL 0) (.bool false) (zI zL 0) (zI zL 0) (zI zL 0) (.slice (some ⟨sl,0,none⟩) 2 2)
 replace Xz:=zH (Xz.out.put (zI zL op) (zI zL at0) (.string ⟨#[]⟩) (zI zL 0) (zI zL 0) (.bool false) (zI zL 0) (zI zL 0) (zI zL 0) (.slice (some ⟨sl,0,none⟩) 2 2))
 replace F:=zH (F.out.kept hkz zac)
 replace Xx:=zH (Xx.out.kept hkz zac)
 replace Xy:=zH (Xy.out.kept hkz zac)
 replace S5:=zH (S5.out.kept hkz zac)
 replace S6:=zH (S6.out.kept hkz zac)
 replace Nx:=zH (fun u hu=>NodeA.kept hkz (fun h=>h.2 rfl) _ _ (Nx.out u hu))
 replace Ny:=zH (fun u hu=>NodeA.kept hkz (fun h=>h.2 rfl) _ _ (Ny.out u hu))
 replace HZ:=zH (fun m hm=>NodeA.kept hkz (fun h=>h.2 rfl) _ _ (HZ.out m hm))
 replace hS:Hid (B10 ((((((((((VF.setCell ⟨blz,0,none⟩ (zI zL op)).setCell ⟨blz,1,none⟩ (zI zL at0)).setCell ⟨blz,2,none⟩ (.string ⟨#[]⟩)).setCell ⟨blz,3,none⟩ (zI zL 0)).setCell ⟨blz,4,none⟩ (zI zL 0)).setCell ⟨blz,5,none⟩ (.bool false)).setCell ⟨blz,6,none⟩ (zI zL 0)).setCell ⟨blz,7,none⟩ (zI zL 0)).setCell ⟨blz,8,none⟩ (zI zL 0)).setCell ⟨blz,9,none⟩ (.slice (some ⟨sl,0,none⟩) 2 2)) blx (zI zL xo) (zI zL xa) (.string xs) (zI zL xn) (zI zL xd) (.bool xf) (zI zL xm) (zI zL xr) (zI zL xy) (.slice xq xk xc)/\B10 ((((((((((VF.setCell ⟨blz,0,none⟩ (zI zL op)).setCell ⟨blz,1,none⟩ (zI zL at0)).setCell ⟨blz,2,none⟩ (.string ⟨#[]⟩)).setCell ⟨blz,3,none⟩ (zI zL 0)).setCell ⟨blz,4,none⟩ (zI zL 0)).setCell ⟨blz,5,none⟩ (.bool false)).setCell ⟨blz,6,none⟩ (zI zL 0)).setCell ⟨blz,7,none⟩ (zI zL 0)).setCell ⟨blz,8,none⟩ (zI zL 0)).setCell ⟨blz,9,none⟩ (.slice (some ⟨sl,0,none⟩) 2 2)) bly (zI zL yo) (zI zL ya) (.string ys) (zI zL yn) (zI zL yd) (.bool yf) (zI zL ym) (zI zL yr) (zI zL yy) (.slice yq yk yc)/\((((((((((VF.setCell ⟨blz,0,none⟩ (zI zL op)).setCell ⟨blz,1,none⟩ (zI zL at0)).setCell ⟨blz,2,none⟩ (.string ⟨#[]⟩)).setCell ⟨blz,3,none⟩ (zI zL 0)).setCell ⟨blz,4,none⟩ (zI zL 0)).setCell ⟨blz,5,none⟩ (.bool false)).setCell ⟨blz,6,none⟩ (zI zL 0)).setCell ⟨blz,7,none⟩ (zI zL 0)).setCell ⟨blz,8,none⟩ (zI zL 0)).setCell ⟨blz,9,none⟩ (.slice (some ⟨sl,0,none⟩) 2 2)).cell? ⟨b6,j,none⟩=some (zI zL op)):=⟨Xx.out,Xy.out,HC.out _ S6.out⟩
 clear hkz
 generalize ((((((((((VF.setCell ⟨blz,0,none⟩ (zI zL op)).setCell ⟨blz,1,none⟩ (zI zL at0)).setCell ⟨blz,2,none⟩ (.string ⟨#[]⟩)).setCell ⟨blz,3,none⟩ (zI zL 0)).setCell ⟨blz,4,none⟩ (zI zL 0)).setCell ⟨blz,5,none⟩ (.bool false)).setCell ⟨blz,6,none⟩ (zI zL 0)).setCell ⟨blz,7,none⟩ (zI zL 0)).setCell ⟨blz,8,none⟩ (zI zL 0)).setCell ⟨blz,9,none⟩ (.slice (some ⟨sl,0,none⟩) 2 2))=VG at *
 refine hK.out _ _ ?_ (fun hHeld=>?_)
 ·exact hS
 clear hK K
 try simp only[Act.put,zA,zB,zC]
 refine wpAnyH_done zab ?_ _
 clear hS
 exact zz5):P:=h
theorem Aw{P:Prop}(h:P:=by
 have e123:=zE s[0] 123 false zag
 have e125:=zE s[0] 125 false zag
 have e40:=zE s[0] 40 false zag
 have e41:=zE s[0] 41 false zag
 have e59:=zE s[0] 59 false zag
 exact zz8):P:=h
theorem Bz{P:Prop}(h:P:=by
 have e40:=zE s[0] 40 false zad
 have e41:=zE s[0] 41 false zad
 have e59:=zE s[0] 59 false zad
 have e44:=zE s[0] 44 false zad
 have e58:=zE s[0] 58 false zad
 exact CX):P:=h
theorem BF{P:Prop}(h:P:=by
 have e40:=zE s[0] 40 false zad
 have e41:=zE s[0] 41 false zad
 have e59:=zE s[0] 59 false zad
 have e44:=zE s[0] 44 false zad
 have e58:=zE s[0] 58 false zad
 exact Dk):P:=h
theorem Bc{P:Prop}(h:P:=by
 have e40:=zE s[0] 40 false zad
 have e41:=zE s[0] 41 false zad
 have e59:=zE s[0] 59 false zad
 have e44:=zE s[0] 44 false zad
 have e58:=zE s[0] 58 false zad
 exact Dh):P:=h
theorem DJ{P:Prop}(h:P:=by
 have e40:=zE s[0] 40 false zag
 have e41:=zE s[0] 41 false zag
 have e59:=zE s[0] 59 false zag
 exact zz8):P:=h
theorem DR{P:Prop}(h:P:=by
 have e59:=zE s[0] 59 false zad
 have e44:=zE s[0] 44 false zad
 have e58:=zE s[0] 58 false zad
 exact CX):P:=h
theorem CL{P:Prop}(h:P:=by
 have e59:=zE s[0] 59 false zad
 have e44:=zE s[0] 44 false zad
 have e58:=zE s[0] 58 false zad
 exact Dk):P:=h
theorem Dg{P:Prop}(h:P:=by
 have e59:=zE s[0] 59 false zad
 have e44:=zE s[0] 44 false zad
 have e58:=zE s[0] 58 false zad
 exact Dh):P:=h
theorem Dq{P:Prop}(h:P:=by
 subst hx
 by_cases hx:n0=n0'
 ·subst hx
  by_cases hx:d0=d0'
  ·subst hx
   by_cases hx:a5=b5
   ·subst hx
    by_cases hx:a6=b6
    ·subst hx
     by_cases hx:a7=b7
     ·subst hx
      by_cases hx:a8=b8
      ·subst hx
       have hx:kl≠kl':=zbt
       have e1:((kl:Int)==(kl':Int))=false:=zai
       clear h
       exact zz7
      ·have e1:(a8==b8)=false:=by simpa using hx
       clear h hx
       exact zz7
     ·have e1:(a7==b7)=false:=by simpa using hx
      clear h hx
      exact zz7
    ·have e1:(a6==b6)=false:=by simpa using hx
     clear h hx
     exact zz7
   ·have e1:(a5==b5)=false:=by simpa using hx
    clear h hx
    exact zz7
  ·have e1:(d0==d0')=false:=by simpa using hx
   clear h hx
   exact zz7
 ·have e1:(n0==n0')=false:=by simpa using hx
  clear h hx
  exact zz7):P:=h
theorem Eo{P:Prop}(h:P:=by
 clear i1 i2 hle hx hW hn hsz
 go_enter Tryz.func65,Tryz.ntmps65
 go_wp2_with fail
 change Code.wp _ _ _ _ (w.alloc (.cells #[zI zL 0,zI zL 0] 31))
 have A0:=zH (At2.new w (zI zL 0) (zI zL 0) 31)
 have B0:=zH ((Below.refl w.heap.size w).alloc (Nat.le_refl _) (.cells #[zI zL 0,zI zL 0] 31))
 generalize w.alloc (.cells #[zI zL 0,zI zL 0] 31)=w1 at *
 go_loopg [4] W (fun g s4 wr=>∃k:Nat,s4 = zI zL k/\k<=W/\W-k<=g/\wr=w1)
 case atStart=>exact⟨0,rfl,zac,zac,rfl⟩
 case round =>
  obtain⟨k,rfl,hk,hkg,rfl⟩:=hrel
  by_cases hlt:k<W
  ·exact FJ
  ·obtain rfl:k=W:=by omega
   clear hk hkg
   have c0:=A0.out.c0
   have c1:=A0.out.c1
   have f0:=A0.out.f0
   have f1:=A0.out.f1
   go_wp2_with fail
   exact zz33):P:=h
theorem Es{P:Prop}(h:P:=by
 go_simp
 refine hK.out _ _ ?_ (fun hHeld=>?_)
 ·exact hS
 clear hK K
 try simp only[Act.put,zA,zB,zC]
 refine wpAnyH_ready (rs:=[2]) zab (by simp) (st2 (fun K hK=>?_) AllReadyH.nil)
 go_simp
 refine(KO2.out _ HS.out).mono ?_
 rintro _ v7 ⟨rfl,hb⟩
 go_wp2_with fail
 replace Z:=zH (Z.out.bel hb)
 replace B:=zH (B.out.trans (hb.mono B.out.size))
 replace X:=zH (X.out.bel hb)
 replace Y:=zH (Y.out.bel hb)
 replace HS:=zH (HS.out.bel hb)
 clear hb y0 y1 y2 y3 y4 f0 f1 f2 f3 f4
 obtain⟨y0,y1,y2,y3,y4,f0,f1,f2,f3,f4⟩:=Y.out
 exact zz2):P:=h
theorem DZ{P:Prop}(h:P:=by
 go_simp
 refine hK.out _ _ ?_ (fun hHeld=>?_)
 ·exact hS
 clear hK K
 try simp only[Act.put,zA,zB,zC]
 refine wpAnyH_ready (rs:=[2]) zab (by simp) (st2 (fun K hK=>?_) AllReadyH.nil)
 go_simp
 refine(KO3.out _ (HS.out.bel F.out.B)).mono ?_
 rintro _ v7 ⟨rfl,hb⟩
 go_wp2_with fail
 replace F:=zH (F.out.bel hb)
 replace D:=zH (D.out.bel (Nat.succ_pos _) hb)
 clear hb c0 c1 c2 c3 c4 f0 f1 f2 f3 f4
 obtain⟨c0,c1,c2,c3,c4,f0,f1,f2,f3,f4⟩:=F.out.A
 exact zz1):P:=h
theorem Bu{P:Prop}(h:P:=by
 have l1:(1:Int)<(s.size:Int):=zac
 have l2:decide ((1:Int)<(s.size:Int))=true:=decide_eq_true l1
 have q1:((s[1].toNat:Int)==61)=false:=(HQ.out hlen).symm
 exact FL):P:=h
theorem Cq{P:Prop}(h:P:=by
 have l1:(1:Int)<(s.size:Int):=zac
 have l2:decide ((1:Int)<(s.size:Int))=true:=decide_eq_true l1
 have q1:((s[1].toNat:Int)==61)=true:=(HQ.out hlen).symm
 exact FL):P:=h
theorem Ai{P:Prop}(h:P:=by
 have l1:¬(1:Int)<(s.size:Int):=zac
 have l2:decide ((1:Int)<(s.size:Int))=false:=decide_eq_false l1
 exact FL):P:=h
theorem BM{P:Prop}(h:P:=by
 have e123:=zE s[0] 123 false zad
 have e125:=zE s[0] 125 false zad
 exact Bz):P:=h
theorem AL{P:Prop}(h:P:=by
 have e123:=zE s[0] 123 false zad
 have e125:=zE s[0] 125 false zad
 exact BF):P:=h
theorem Bq{P:Prop}(h:P:=by
 have e123:=zE s[0] 123 false zad
 have e125:=zE s[0] 125 false zad
 exact Bc):P:=h
theorem CP{P:Prop}(h:P:=by
 have e33:=zE s[0] 33 true zag
 have e60:=zE s[0] 60 false zag
 have e62:=zE s[0] 62 false zag
 exact Aw):P:=h
theorem Ec{P:Prop}(h:P:=by
 have e33:=zE s[0] 33 false zag
 have e60:=zE s[0] 60 true zag
 have e62:=zE s[0] 62 false zag
 exact Aw):P:=h
theorem Da{P:Prop}(h:P:=by
 have e33:=zE s[0] 33 false zag
 have e60:=zE s[0] 60 false zag
 have e62:=zE s[0] 62 true zag
 exact Aw):P:=h
end Go.Proofs.YtnjfolljbfkojaaGreatDoor
