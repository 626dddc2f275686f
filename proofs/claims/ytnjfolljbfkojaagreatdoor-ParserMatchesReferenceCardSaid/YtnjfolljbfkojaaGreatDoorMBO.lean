import Derived.Test.YtnjfolljbfkojaaGreatDoorMBN
set_option maxRecDepth 100000
set_option maxHeartbeats 20000000
namespace Go.Proofs.YtnjfolljbfkojaaGreatDoor
open Go.Value renaming int→zI
open Go.IntKind renaming i64→zL
open Go.Lib renaming hid→zH
open Go.RowKit Lx Pa
theorem yP {ts:List Tok}{p:Option Addr}{b off cap n En:Nat}(σ:Sg)(hk:σ.k<=n)(hno:σ.E≠0\/which kinds (ts.drop σ.k)=none)(w:World)(hS:SlT w p b off n ts):Calls Tryz.prog 22 #[.agg #[.slice p n cap,zI zL (σ.k:Nat),zI zL En,zI zL σ.E,zI zL σ.O]] w fun e w'=>Bi w p n cap ((σ.run ts En dE).k:Nat) En (σ.run ts En dE).E (σ.run ts En dE).O (ag ts En) (σ.val ts dE) e w':=by
 have hl:=hS.ln
 have hmx:=hS.max
 have KO:=zH (fun w hS=>aj ts p b off cap n σ.k En σ.E σ.O w hS hk)
 have KU:=zH (fun w=>lw w)
 obtain⟨wh0,hwh⟩:∃x:Int,x=if σ.E=0 then whV (which kinds (ts.drop σ.k)) else -1:=⟨_,rfl⟩
 have KW:Hid (∀w p2 b2 cap2,SlT w p b off n ts->SlS w p2 b2 0 7 kinds->Calls Tryz.prog 42 #[.agg #[.slice p n cap,zI zL (σ.k:Nat),zI zL En,zI zL σ.E,zI zL σ.O],.slice p2 7 cap2] w fun e w'=>e = .returned (zI zL wh0)/\RowKit.Below w.heap.size w w'):=fun w p2 b2 cap2 hS hL=>by
  rw[hwh]
  exact Eh
 have HWV:=zH hwh
 have HS:=zH hS
 have HKD:=zH (uK (En:=En) (ts:=ts) σ zac)
 clear hwh hS
 rcases HKD.out with ⟨u,-,h0,-,hw,-⟩|⟨-,hr,hv⟩
 ·rcases hno with h|h
  ·exact absurd h0 h
  ·rw[h] at hw;cases hw
 clear HKD
 have hw0:wh0 = -1:=by
  rw[HWV.out]
  rcases hno with h|h
  ·exact if_neg h
  ·rw[h];split<;>rfl
 subst hw0
 have KF:Hid (∀w,Calls Tryz.prog 27 #[.agg #[.slice p n cap,zI zL (σ.k:Nat),zI zL En,zI zL σ.E,zI zL σ.O],zI zL 10,zI zL (ag ts En (n-σ.k))] w fun e w'=>e = .returned (.agg #[.slice p n cap,zI zL ((σ.run ts En dE).k:Nat),zI zL En,zI zL (σ.run ts En dE).E,zI zL (σ.run ts En dE).O])/\RowKit.Below w.heap.size w w'):=fun w=>by
  have:=bA p n cap σ.k En σ.E σ.O 10 (ag ts En (n-σ.k)) w
  rw[hr,hl]
  exact this
 rw[hv]
 clear hv hr hno HWV
 generalize σ.run ts En dE=τ at *
 obtain⟨kz,Ez,Oz⟩:=τ
 obtain⟨k,E,O⟩:=σ
 simp only at KO KW KF hk |-
 obtain⟨at0,hat⟩:∃a,a=ag ts En (n-k):=⟨_,rfl⟩
 rw[<-hat] at KO KF
 have HAT:=zH hat
 clear hat
 obtain⟨W3,hW3⟩:∃W3,W3=((w.alloc (.cells #[.slice p n cap,zI zL (k:Nat),zI zL En,zI zL E,zI zL O] 62)).alloc (.cells #[.string ⟨#[]⟩,zI zL 0,zI zL 0,.string ⟨#[]⟩,zI zL 0,zI zL 0,zI zL 0,zI zL 0,zI zL 0,.string ⟨#[]⟩,zI zL 0,zI zL 0,.bool false,zI zL 0,zI zL 0,zI zL 0,.slice none 0 0,zI zL 0,zI zL 0,.string ⟨#[]⟩,zI zL 0,zI zL 0,.bool false,zI zL 0,zI zL 0,zI zL 0,.slice none 0 0,zI zL 0] 49)).alloc (.cells #[.slice none 0 0,zI zL 0,zI zL 0,zI zL 0,zI zL 0] 62):=⟨_,rfl⟩
 have F:Hid (FrL w W3 p n cap (k:Nat) En E O [.string ⟨#[]⟩,zI zL 0,zI zL 0,.string ⟨#[]⟩,zI zL 0,zI zL 0,zI zL 0,zI zL 0,zI zL 0,.string ⟨#[]⟩,zI zL 0,zI zL 0,.bool false,zI zL 0,zI zL 0,zI zL 0,.slice none 0 0,zI zL 0,zI zL 0,.string ⟨#[]⟩,zI zL 0,zI zL 0,.bool false,zI zL 0,zI zL 0,zI zL 0,.slice none 0 0,zI zL 0]):=by rw[hW3];exact FrL.new w p n cap (k:Nat) En E O [.string ⟨#[]⟩,zI zL 0,zI zL 0,.string ⟨#[]⟩,zI zL 0,zI zL 0,zI zL 0,zI zL 0,zI zL 0,.string ⟨#[]⟩,zI zL 0,zI zL 0,.bool false,zI zL 0,zI zL 0,zI zL 0,.slice none 0 0,zI zL 0,zI zL 0,.string ⟨#[]⟩,zI zL 0,zI zL 0,.bool false,zI zL 0,zI zL 0,zI zL 0,.slice none 0 0,zI zL 0] zah 62 49
 go_enter Tryz.func22,Tryz.ntmps22
 go_wp2_with fail
 rw[<-hW3]
 clear hW3
 obtain⟨c0,c1,c2,c3,c4,f0,f1,f2,f3,f4⟩:=F.out.A
 refine(KO.out _ (HS.out.bel F.out.B)).mono ?_
 rintro _ v0 ⟨rfl,hb⟩
 replace F:=zH (F.out.bel hb)
 have lo:=World.block_lt_of_cell? _ _ F.out.R.c0
 simp only at lo
 clear hb c0 c1 c2 c3 c4 f0 f1 f2 f3 f4
 obtain⟨c0,c1,c2,c3,c4,f0,f1,f2,f3,f4⟩:=F.out.A
 have lc:=World.block_lt_of_cell? _ _ c0
 simp only at lc
 go_wp2_with fail
 obtain⟨K0,hK0⟩:∃K0:Act->World->Prop,K0=(fun a V=>∃(db:Nat),IsActR w.heap.size db at0 a/\w.heap.size+2<db/\db<V.heap.size/\Hid (FrL w V p n cap (k:Nat) En E O [.string ⟨#[]⟩,zI zL 0,zI zL 0,.string ⟨#[]⟩,zI zL 0,zI zL 0,zI zL 0,zI zL 0,zI zL 0,.string ⟨#[]⟩,zI zL 0,zI zL 0,.bool false,zI zL 0,zI zL 0,zI zL 0,.slice none 0 0,zI zL 0,zI zL 0,.string ⟨#[]⟩,zI zL 0,zI zL 0,.bool false,zI zL 0,zI zL 0,zI zL 0,.slice none 0 0,zI zL 0])/\Hid (aH V db [.string ⟨#[]⟩,zI zL 0,zI zL 0,.string ⟨#[]⟩,zI zL 0,zI zL 36525,zI zL 0,zI zL 17,zI zL at0,.string ⟨#[]⟩,zI zL 0,zI zL 0,.bool false,zI zL 0,zI zL 0,zI zL 0,.slice none 0 0,zI zL 1,zI zL at0,.string ⟨#[]⟩,zI zL 0,zI zL 1,.bool false,zI zL 0,zI zL 0,zI zL 0,.slice none 0 0,zI zL at0])):=⟨_,rfl⟩
 have HK0:=zH hK0
 clear hK0
 rename_i hKrest
 refine Code.wp_mono (Q:=Exit.then K0 (fun _ _ _=>False)) ?_ ?_
 rotate_left
 ·have hb:=(Below.refl v0.heap.size v0).drew
  have hS:Hid (B5 v0.drew w.heap.size (.slice p n cap) (zI zL (k:Nat)) (zI zL En) (zI zL E) (zI zL O)):=F.out.A.bel hb
  refine wp_region_held (S:=fun w':World=>Hid (B5 w' w.heap.size (.slice p n cap) (zI zL (k:Nat)) (zI zL En) (zI zL E) (zI zL O))) mixed ?_
  change wpAnyH _ _ _ _ _ _ _ _ v0.drew
  replace F:=zH (F.out.bel hb)
  clear hb c0 c1 c2 c3 c4 f0 f1 f2 f3 f4
  generalize v0.drew=U0 at *
  refine tk0 (v:= zI zL at0) zab zab zab (fun _ _ _ h=>h) (Or.inl ⟨zab,?_⟩) hS ?_
  ·intro w' hSw
   go_simp;try with_reducible rfl
  simp only[Act.put,zA,zB,zC]
  refine tk1 (v:= .agg #[.slice p n cap,zI zL (k:Nat),zI zL En,zI zL E,zI zL O]) zab zab zab (fun _ _ _ h=>h) (Or.inl ⟨zab,?_⟩) hS ?_
  ·exact AJ
  simp only[Act.put,zA,zB,zC]
  refine tk5 (v:= .agg #[zI zL 0,zI zL 36525]) zab zab zab (fun _ _ _ h=>h) (Or.inl ⟨zab,?_⟩) hS ?_
  ·intro w' hSw
   go_simp;try with_reducible rfl
  simp only[Act.put,zA,zB,zC]
  refine tk6 (v:= zI zL at0) zab zab zab (fun _ _ _ h=>h) (Or.inl ⟨zab,?_⟩) hS ?_
  ·intro w' hSw
   go_simp;try with_reducible rfl
  simp only[Act.put,zA,zB,zC]
  refine tk7 (v:= .agg #[zI zL 17,zI zL at0,.string ⟨#[]⟩,zI zL 0,zI zL 0,.bool false,zI zL 0,zI zL 0,zI zL 0,.slice none 0 0]) zab zab zab (fun _ _ _ h=>h) (Or.inl ⟨zab,?_⟩) hS ?_
  ·intro w' hSw
   go_simp;try with_reducible rfl
  simp only[Act.put,zA,zB,zC]
  refine tk8 (v:= zI zL at0) zab zab zab (fun _ _ _ h=>h) (Or.inl ⟨zab,?_⟩) hS ?_
  ·intro w' hSw
   go_simp;try with_reducible rfl
  simp only[Act.put,zA,zB,zC]
  refine tk9 (v:= .agg #[zI zL 0,zI zL 1]) zab zab zab (fun _ _ _ h=>h) (Or.inl ⟨zab,?_⟩) hS ?_
  ·intro w' hSw
   go_simp;try with_reducible rfl
  simp only[Act.put,zA,zB,zC]
  refine Cs (v:= .agg #[zI zL 1,zI zL at0,.string ⟨#[]⟩,zI zL 0,zI zL 1,.bool false,zI zL 0,zI zL 0,zI zL 0,.slice none 0 0]) zab zab zab (fun _ _ _ h=>h) (Or.inl ⟨zab,?_⟩) hS ?_
  ·intro w' hSw
   go_simp;try with_reducible rfl
  simp only[Act.put,zA,zB,zC]
  refine wpAnyH_ready (rs:=[2,12]) zab (by simp) (st2 (fun K hK=>?_) (Am (fun K hK=>?_) AllReadyH.nil))
  ·go_simp
   refine(KU.out _).mono ?_
   rintro _ v5 ⟨qu,bu,capu,rfl,hs5,hb⟩
   go_wp2_with fail
   replace F:=zH (F.out.bel hb)
   clear hb
   replace hS:Hid (B5 v5 w.heap.size (.slice p n cap) (zI zL (k:Nat)) (zI zL En) (zI zL E) (zI zL O)):=F.out.A
   refine hK.out _ _ ?_ (fun hHeld=>?_)
   ·exact hS
   clear hK K
   try simp only[Act.put,zA,zB,zC]
   refine wpAnyH_ready (rs:=[3,12]) zab (by simp) (st3 (fun K hK=>?_) (Am (fun K hK=>?_) AllReadyH.nil))
   ·go_simp
    refine(KW.out _ _ _ _ (HS.out.bel F.out.B) hs5).mono ?_
    rintro _ v6 ⟨rfl,hb⟩
    go_wp2_with fail
    replace F:=zH (F.out.bel hb)
    clear hb
    replace hS:Hid (B5 v6 w.heap.size (.slice p n cap) (zI zL (k:Nat)) (zI zL En) (zI zL E) (zI zL O)):=F.out.A
    refine hK.out _ _ ?_ (fun hHeld=>?_)
    ·exact hS
    clear hK K
    try simp only[Act.put,zA,zB,zC]
    refine tk4 (v:= zI zL 0) zab zab zab (fun _ _ _ h=>h) (Or.inl ⟨zab,?_⟩) hS ?_
    ·intro w' hSw
     go_simp
     exact IntWalk.i64_in 0 zac
    simp only[Act.put,zA,zB,zC]
    refine CS (v:= .agg #[.string ⟨#[]⟩,zI zL 0,zI zL 0,.string ⟨#[]⟩,zI zL 0,zI zL 36525,zI zL 0,zI zL 17,zI zL at0,.string ⟨#[]⟩,zI zL 0,zI zL 0,.bool false,zI zL 0,zI zL 0,zI zL 0,.slice none 0 0,zI zL 1,zI zL at0,.string ⟨#[]⟩,zI zL 0,zI zL 1,.bool false,zI zL 0,zI zL 0,zI zL 0,.slice none 0 0,zI zL at0]) zab zab zab (fun _ _ _ h=>h) (Or.inl ⟨zab,?_⟩) hS ?_
    ·intro w' hSw
     exact jv rfl (fw _ _ _)
    simp only[Act.put,zA,zB,zC]
    refine wpAnyH_ready (rs:=[12]) zab (by simp) (Am (fun K hK=>?_) AllReadyH.nil)
    refine(if_pos zab).mpr ?_
    refine fC rfl (bK _) ?_
    have hb:=(Below.refl v6.heap.size v6).alloc (Nat.le_refl _) (.cells cK 49)
    have D:Hid (aH (v6.alloc (.cells cK 49)) v6.heap.size [.string ⟨#[]⟩,zI zL 0,zI zL 0,.string ⟨#[]⟩,zI zL 0,zI zL 0,zI zL 0,zI zL 0,zI zL 0,.string ⟨#[]⟩,zI zL 0,zI zL 0,.bool false,zI zL 0,zI zL 0,zI zL 0,.slice none 0 0,zI zL 0,zI zL 0,.string ⟨#[]⟩,zI zL 0,zI zL 0,.bool false,zI zL 0,zI zL 0,zI zL 0,.slice none 0 0,zI zL 0]):=aH.new v6 [.string ⟨#[]⟩,zI zL 0,zI zL 0,.string ⟨#[]⟩,zI zL 0,zI zL 0,zI zL 0,zI zL 0,zI zL 0,.string ⟨#[]⟩,zI zL 0,zI zL 0,.bool false,zI zL 0,zI zL 0,zI zL 0,.slice none 0 0,zI zL 0,zI zL 0,.string ⟨#[]⟩,zI zL 0,zI zL 0,.bool false,zI zL 0,zI zL 0,zI zL 0,.slice none 0 0,zI zL 0] 49
    have FR:=F
    replace F:=zH (F.out.bel hb)
    have hS1:Hid (B5 (v6.alloc (.cells cK 49)) w.heap.size (.slice p n cap) (zI zL (k:Nat)) (zI zL En) (zI zL E) (zI zL O)):=F.out.A
    replace hS:=hS1
    clear hS1
    have ldb:w.heap.size+2<v6.heap.size:=zba
    clear hb FR
    generalize v6.alloc (.cells cK 49)=UA at *
    generalize v6.heap.size=db at *
    refine hK.out _ _ ?_ (fun hHeld=>?_)
    ·exact hS
    clear hK K
    try simp only[Act.put,zA,zB,zC]
    refine wpAnyH_ready (rs:=[13]) zab (by simp) (Ew (fun K hK=>?_) AllReadyH.nil)
    refine(if_pos zab).mpr ?_
    refine gz rfl rfl rfl (dz 49 28 zab UA db [.string ⟨#[]⟩,zI zL 0,zI zL 0,.string ⟨#[]⟩,zI zL 0,zI zL 0,zI zL 0,zI zL 0,zI zL 0,.string ⟨#[]⟩,zI zL 0,zI zL 0,.bool false,zI zL 0,zI zL 0,zI zL 0,.slice none 0 0,zI zL 0,zI zL 0,.string ⟨#[]⟩,zI zL 0,zI zL 0,.bool false,zI zL 0,zI zL 0,zI zL 0,.slice none 0 0,zI zL 0] [.string ⟨#[]⟩,zI zL 0,zI zL 0,.string ⟨#[]⟩,zI zL 0,zI zL 36525,zI zL 0,zI zL 17,zI zL at0,.string ⟨#[]⟩,zI zL 0,zI zL 0,.bool false,zI zL 0,zI zL 0,zI zL 0,.slice none 0 0,zI zL 1,zI zL at0,.string ⟨#[]⟩,zI zL 0,zI zL 1,.bool false,zI zL 0,zI zL 0,zI zL 0,.slice none 0 0,zI zL at0] D.out rfl rfl zbj) ?_
    replace D:=zH (D.out.cells (L:=[.string ⟨#[]⟩,zI zL 0,zI zL 0,.string ⟨#[]⟩,zI zL 0,zI zL 36525,zI zL 0,zI zL 17,zI zL at0,.string ⟨#[]⟩,zI zL 0,zI zL 0,.bool false,zI zL 0,zI zL 0,zI zL 0,.slice none 0 0,zI zL 1,zI zL at0,.string ⟨#[]⟩,zI zL 0,zI zL 1,.bool false,zI zL 0,zI zL 0,zI zL 0,.slice none 0 0,zI zL at0]) rfl)
    have hk:=aT (b:=db) (w:=UA) [.string ⟨#[]⟩,zI zL 0,zI zL 0,.string ⟨#[]⟩,zI zL 0,zI zL 36525,zI zL 0,zI zL 17,zI zL at0,.string ⟨#[]⟩,zI zL 0,zI zL 0,.bool false,zI zL 0,zI zL 0,zI zL 0,.slice none 0 0,zI zL 1,zI zL at0,.string ⟨#[]⟩,zI zL 0,zI zL 1,.bool false,zI zL 0,zI zL 0,zI zL 0,.slice none 0 0,zI zL at0] 0 UA (Kept.refl _ _)
    replace F:=zH (F.out.kept hk ldb)
    replace hS:Hid (B5 _ w.heap.size (.slice p n cap) (zI zL (k:Nat)) (zI zL En) (zI zL E) (zI zL O)):=F.out.A
    clear hk
    generalize UA.setCells db 0 [.string ⟨#[]⟩,zI zL 0,zI zL 0,.string ⟨#[]⟩,zI zL 0,zI zL 36525,zI zL 0,zI zL 17,zI zL at0,.string ⟨#[]⟩,zI zL 0,zI zL 0,.bool false,zI zL 0,zI zL 0,zI zL 0,.slice none 0 0,zI zL 1,zI zL at0,.string ⟨#[]⟩,zI zL 0,zI zL 1,.bool false,zI zL 0,zI zL 0,zI zL 0,.slice none 0 0,zI zL at0]=UB at *
    exact zz45
   ·refine(if_pos zab).mpr ?_
    refine fC rfl (bK _) ?_
    have hb:=(Below.refl v5.heap.size v5).alloc (Nat.le_refl _) (.cells cK 49)
    have D:Hid (aH (v5.alloc (.cells cK 49)) v5.heap.size [.string ⟨#[]⟩,zI zL 0,zI zL 0,.string ⟨#[]⟩,zI zL 0,zI zL 0,zI zL 0,zI zL 0,zI zL 0,.string ⟨#[]⟩,zI zL 0,zI zL 0,.bool false,zI zL 0,zI zL 0,zI zL 0,.slice none 0 0,zI zL 0,zI zL 0,.string ⟨#[]⟩,zI zL 0,zI zL 0,.bool false,zI zL 0,zI zL 0,zI zL 0,.slice none 0 0,zI zL 0]):=aH.new v5 [.string ⟨#[]⟩,zI zL 0,zI zL 0,.string ⟨#[]⟩,zI zL 0,zI zL 0,zI zL 0,zI zL 0,zI zL 0,.string ⟨#[]⟩,zI zL 0,zI zL 0,.bool false,zI zL 0,zI zL 0,zI zL 0,.slice none 0 0,zI zL 0,zI zL 0,.string ⟨#[]⟩,zI zL 0,zI zL 0,.bool false,zI zL 0,zI zL 0,zI zL 0,.slice none 0 0,zI zL 0] 49
    have FR:=F
    replace F:=zH (F.out.bel hb)
    have hS1:Hid (B5 (v5.alloc (.cells cK 49)) w.heap.size (.slice p n cap) (zI zL (k:Nat)) (zI zL En) (zI zL E) (zI zL O)):=F.out.A
    replace hS:=hS1
    clear hS1
    replace hs5:=hs5.bel hb
    have ldb:w.heap.size+2<v5.heap.size:=zba
    clear hb FR
    generalize v5.alloc (.cells cK 49)=UA at *
    generalize v5.heap.size=db at *
    exact zz23
  ·refine(if_pos zab).mpr ?_
   refine fC rfl (bK _) ?_
   have hb:=(Below.refl U0.heap.size U0).alloc (Nat.le_refl _) (.cells cK 49)
   have D:Hid (aH (U0.alloc (.cells cK 49)) U0.heap.size [.string ⟨#[]⟩,zI zL 0,zI zL 0,.string ⟨#[]⟩,zI zL 0,zI zL 0,zI zL 0,zI zL 0,zI zL 0,.string ⟨#[]⟩,zI zL 0,zI zL 0,.bool false,zI zL 0,zI zL 0,zI zL 0,.slice none 0 0,zI zL 0,zI zL 0,.string ⟨#[]⟩,zI zL 0,zI zL 0,.bool false,zI zL 0,zI zL 0,zI zL 0,.slice none 0 0,zI zL 0]):=aH.new U0 [.string ⟨#[]⟩,zI zL 0,zI zL 0,.string ⟨#[]⟩,zI zL 0,zI zL 0,zI zL 0,zI zL 0,zI zL 0,.string ⟨#[]⟩,zI zL 0,zI zL 0,.bool false,zI zL 0,zI zL 0,zI zL 0,.slice none 0 0,zI zL 0,zI zL 0,.string ⟨#[]⟩,zI zL 0,zI zL 0,.bool false,zI zL 0,zI zL 0,zI zL 0,.slice none 0 0,zI zL 0] 49
   have FR:=F
   replace F:=zH (F.out.bel hb)
   have hS1:Hid (B5 (U0.alloc (.cells cK 49)) w.heap.size (.slice p n cap) (zI zL (k:Nat)) (zI zL En) (zI zL E) (zI zL O)):=F.out.A
   replace hS:=hS1
   clear hS1
   have ldb:w.heap.size+2<U0.heap.size:=zba
   clear hb FR
   generalize U0.alloc (.cells cK 49)=UA at *
   generalize U0.heap.size=db at *
   refine hK.out _ _ ?_ (fun hHeld=>?_)
   ·exact hS
   clear hK K
   try simp only[Act.put,zA,zB,zC]
   refine wpAnyH_ready (rs:=[2]) zab (by simp) (st2 (fun K hK=>?_) AllReadyH.nil)
   go_simp
   refine(KU.out _).mono ?_
   rintro _ v5 ⟨qu,bu,capu,rfl,hs5,hb⟩
   go_wp2_with fail
   replace F:=zH (F.out.bel hb)
   replace D:=zH (D.out.bel (Nat.succ_pos _) hb)
   clear hb
   replace hS:Hid (B5 v5 w.heap.size (.slice p n cap) (zI zL (k:Nat)) (zI zL En) (zI zL E) (zI zL O)):=F.out.A
   exact zz23
 intro e a v hv
 have hen:e = .normal/\K0 a v:=by cases e<;>first|exact⟨rfl,hv⟩|exact hv.elim
 clear hv
 obtain⟨rfl,hv⟩:=hen
 rw[HK0.out] at hv
 clear HK0
 clear F lo lc c0 c1 c2 c3 c4 f0 f1 f2 f3 f4
 obtain⟨db,ha,hdb,hdv,F,D⟩:=hv
 cases ha
 refine hKrest _ _ ?_
 clear hKrest
 obtain⟨c0,c1,c2,c3,c4,f0,f1,f2,f3,f4⟩:=F.out.A
 obtain⟨dc2,df2⟩:=D.out 2 _ rfl
 go_wp2_with fail
 refine(KF.out _).mono ?_
 rintro _ v1 ⟨rfl,hb⟩
 rename_i hk2
 replace F:=zH (F.out.bel hb)
 replace D:=zH (D.out.bel (Nat.succ_pos _) hb)
 clear hb c0 c1 c2 c3 c4 f0 f1 f2 f3 f4
 refine hk2 _ _ ?_
 refine iL rfl rfl rfl rfl (dz 49 28 zab v1 (w.heap.size+1) [.string ⟨#[]⟩,zI zL 0,zI zL 0,.string ⟨#[]⟩,zI zL 0,zI zL 0,zI zL 0,zI zL 0,zI zL 0,.string ⟨#[]⟩,zI zL 0,zI zL 0,.bool false,zI zL 0,zI zL 0,zI zL 0,.slice none 0 0,zI zL 0,zI zL 0,.string ⟨#[]⟩,zI zL 0,zI zL 0,.bool false,zI zL 0,zI zL 0,zI zL 0,.slice none 0 0,zI zL 0] [.string ⟨#[]⟩,zI zL 0,zI zL 0,.string ⟨#[]⟩,zI zL 0,zI zL 0,zI zL 0,zI zL 0,zI zL 0,.string ⟨#[]⟩,zI zL 0,zI zL 0,.bool false,zI zL 0,zI zL 0,zI zL 0,.slice none 0 0,zI zL 0,zI zL 0,.string ⟨#[]⟩,zI zL 0,zI zL 0,.bool false,zI zL 0,zI zL 0,zI zL 0,.slice none 0 0,zI zL 0] F.out.N rfl rfl zbj) ?_
 simp only[Act.put]
 replace F:=zH (F.out.cellsN (L:=[.string ⟨#[]⟩,zI zL 0,zI zL 0,.string ⟨#[]⟩,zI zL 0,zI zL 0,zI zL 0,zI zL 0,zI zL 0,.string ⟨#[]⟩,zI zL 0,zI zL 0,.bool false,zI zL 0,zI zL 0,zI zL 0,.slice none 0 0,zI zL 0,zI zL 0,.string ⟨#[]⟩,zI zL 0,zI zL 0,.bool false,zI zL 0,zI zL 0,zI zL 0,.slice none 0 0,zI zL 0]) rfl)
 generalize v1.setCells (w.heap.size+1) 0 [.string ⟨#[]⟩,zI zL 0,zI zL 0,.string ⟨#[]⟩,zI zL 0,zI zL 0,zI zL 0,zI zL 0,zI zL 0,.string ⟨#[]⟩,zI zL 0,zI zL 0,.bool false,zI zL 0,zI zL 0,zI zL 0,.slice none 0 0,zI zL 0,zI zL 0,.string ⟨#[]⟩,zI zL 0,zI zL 0,.bool false,zI zL 0,zI zL 0,zI zL 0,.slice none 0 0,zI zL 0]=V1 at *
 clear hk2
 obtain⟨e0,e1,e2,e3,e4,g0,g1,g2,g3,g4⟩:=F.out.R
 go_wp2_with fail
 have hk:=Kept.set5 (Kept.refl (w.heap.size+2) V1) (.slice p n cap) (zI zL (kz:Nat)) (zI zL En) (zI zL Ez) (zI zL Oz)
 have HN:=F.out.N.call F.out.L hk zac
 have HR:=F.out.R.put (.slice p n cap) (zI zL (kz:Nat)) (zI zL En) (zI zL Ez) (zI zL Oz)
 have HB:=hk.below (B:=w.heap.size) zac F.out.B.size
 have BV:=F.out.B.trans HB
 clear hk HB
 refine bodyPost_ret (ig (l:=[.string ⟨#[]⟩,zI zL 0,zI zL 0,.string ⟨#[]⟩,zI zL 0,zI zL 0,zI zL 0,zI zL 0,zI zL 0,.string ⟨#[]⟩,zI zL 0,zI zL 0,.bool false,zI zL 0,zI zL 0,zI zL 0,.slice none 0 0,zI zL 0,zI zL 0,.string ⟨#[]⟩,zI zL 0,zI zL 0,.bool false,zI zL 0,zI zL 0,zI zL 0,.slice none 0 0,zI zL 0]) (m:=[.slice p n cap,zI zL (kz:Nat),zI zL En,zI zL Ez,zI zL Oz]) rfl rfl rfl Tryz.underlying49 rfl zab HN.range Tryz.underlying62 rfl zab HR.range) rfl ⟨[.string ⟨#[]⟩,zI zL 0,zI zL 0,.string ⟨#[]⟩,zI zL 0,zI zL 0,zI zL 0,zI zL 0,zI zL 0,.string ⟨#[]⟩,zI zL 0,zI zL 0,.bool false,zI zL 0,zI zL 0,zI zL 0,.slice none 0 0,zI zL 0,zI zL 0,.string ⟨#[]⟩,zI zL 0,zI zL 0,.bool false,zI zL 0,zI zL 0,zI zL 0,.slice none 0 0,zI zL 0],rfl,zbj,rfl,(fun u hu=>by cases hu),BV⟩
theorem ug {ts:List Tok}{p:Option Addr}{b off cap n En:Nat}(hT:eQ ts)(σ:Sg)(hk:σ.k<=n)(u:Nat)(hu7:u<7)(hu:which kinds (ts.drop σ.k)=some u)(h0:σ.E=0)(hkt:σ.k<ts.length)(w:World)(hS:SlT w p b off n ts):Calls Tryz.prog 22 #[.agg #[.slice p n cap,zI zL (σ.k:Nat),zI zL En,zI zL σ.E,zI zL σ.O]] w fun e w'=>Bi w p n cap (((Sg.mk (σ.k+1) 0 σ.O).run ts En (iZ (u+1) (ts.length-σ.k))).k:Nat) En ((Sg.mk (σ.k+1) 0 σ.O).run ts En (iZ (u+1) (ts.length-σ.k))).E ((Sg.mk (σ.k+1) 0 σ.O).run ts En (iZ (u+1) (ts.length-σ.k))).O (ag ts En) ((Sg.mk (σ.k+1) 0 σ.O).val ts (iZ (u+1) (ts.length-σ.k))) e w':=by
 have hl:=hS.ln
 have hmx:=hS.max
 have KO:=zH (fun w hS=>aj ts p b off cap n σ.k En σ.E σ.O w hS hk)
 have KU:=zH (fun w=>lw w)
 obtain⟨wh0,hwh⟩:∃x:Int,x=if σ.E=0 then whV (which kinds (ts.drop σ.k)) else -1:=⟨_,rfl⟩
 have KW:Hid (∀w p2 b2 cap2,SlT w p b off n ts->SlS w p2 b2 0 7 kinds->Calls Tryz.prog 42 #[.agg #[.slice p n cap,zI zL (σ.k:Nat),zI zL En,zI zL σ.E,zI zL σ.O],.slice p2 7 cap2] w fun e w'=>e = .returned (zI zL wh0)/\RowKit.Below w.heap.size w w'):=fun w p2 b2 cap2 hS hL=>by
  rw[hwh]
  exact Eh
 have HWV:=zH hwh
 have HS:=zH hS
 clear hwh hS
 have hw0:wh0=(u:Int):=by rw[HWV.out,h0];exact if_pos rfl |>.trans (by rw[hu];rfl)
 subst hw0
 clear HWV
 obtain⟨σ1,σ2,σ3,σ4,σ5,σ6,σ7,σ8,σ9,σ10,h1,h2,h3,h4,h5,h6,h7,h8,h9,h10,⟨-,b1,-,b2,-,b3,-,b4,-,b5,-,b6,-,b7,-,b8,-,b9,-,b10⟩,h11,hd⟩:=sW (ts:=ts) (En:=En) (M:=M0) (ts.length-σ.k) (u+1) (Sg.mk (σ.k+1) 0 σ.O) (by show σ.k+1<=_;omega)
 change (Sg.mk (σ.k+1) 0 σ.O).run ts En (iZ (u+1) (ts.length-σ.k))=_ at h11
 change ∀d,(Sg.mk (σ.k+1) 0 σ.O).val ts (iZ (u+1) (ts.length-σ.k))=some d->_ at hd
 have q1:Hid (∀w1,SlT w1 p b off n ts->_):=fun w1 hS1=>lK (En:=En) (cap:=cap) hT (Sg.mk (σ.k+1) 0 σ.O) (by show σ.k+1<=_;omega) w1 hS1
 have q2:Hid (∀w1,SlT w1 p b off n ts->_):=fun w1 hS1=>ed (En:=En) (cap:=cap) σ1 zac w1 hS1
 have H3:=zH (mK (ts:=ts) (En:=En) bC nameO [] σ2 zac)
 have q4:Hid (∀w1,SlT w1 p b off n ts->_):=fun w1 hS1=>bL (En:=En) (cap:=cap) dK σ3 w1 hS1 zac
 have q5:Hid (∀w1,SlT w1 p b off n ts->_):=fun w1 hS1=>ed (En:=En) (cap:=cap) σ4 zac w1 hS1
 have H6:=zH (mK (ts:=ts) (En:=En) aV ae 36525 σ5 zac)
 have q7:Hid (∀w1,SlT w1 p b off n ts->_):=fun w1 hS1=>bL (En:=En) (cap:=cap) bf σ6 w1 hS1 zac
 have q8:Hid (∀w1,SlT w1 p b off n ts->_):=fun w1 hS1=>ed (En:=En) (cap:=cap) σ7 zac w1 hS1
 have H9:=zH (mK (ts:=ts) (En:=En) bD (af M0) (aN (ts.length-σ.k)) σ8 zac)
 have H10:=zH (mK (ts:=ts) (En:=En) bi (af M0) (aK (ts.length-σ.k)) σ9 zac)
 have q11:Hid (∀w1,SlT w1 p b off n ts->_):=fun w1 hS1=>bL (En:=En) (cap:=cap) sSc σ10 w1 hS1 zac
 rw[<-h1] at q1
 rw[<-h2] at q2
 rw[<-h3] at H3
 rw[<-h4] at q4
 rw[<-h5] at q5
 rw[<-h6] at H6
 rw[<-h7] at q7
 rw[<-h8] at q8
 rw[<-h9] at H9
 rw[<-h10] at H10
 obtain⟨σ11,hs11⟩:∃x,x=(Sg.mk (σ.k+1) 0 σ.O).run ts En (iZ (u+1) (ts.length-σ.k)):=⟨_,rfl⟩
 obtain⟨t11,ht11⟩:∃x,x=(Sg.mk (σ.k+1) 0 σ.O).val ts (iZ (u+1) (ts.length-σ.k)):=⟨_,rfl⟩
 obtain⟨t1,ht1⟩:∃x,x=(Sg.mk (σ.k+1) 0 σ.O).val ts nameO:=⟨_,rfl⟩
 obtain⟨t2,ht2⟩:∃x,x=σ1.val ts ae:=⟨_,rfl⟩
 obtain⟨t3,ht3⟩:∃x,x=σ2.val ts (aI bC nameO []):=⟨_,rfl⟩
 obtain⟨t5,ht5⟩:∃x,x=σ4.val ts ae:=⟨_,rfl⟩
 obtain⟨t6,ht6⟩:∃x,x=σ5.val ts (aI aV ae 36525):=⟨_,rfl⟩
 obtain⟨t8,ht8⟩:∃x,x=σ7.val ts ae:=⟨_,rfl⟩
 obtain⟨t9,ht9⟩:∃x,x=σ8.val ts (aI bD (af M0) (aN (ts.length-σ.k))):=⟨_,rfl⟩
 obtain⟨t10,ht10⟩:∃x,x=σ9.val ts (aI bi (af M0) (aK (ts.length-σ.k))):=⟨_,rfl⟩
 rw[<-ht1] at q1
 rw[<-ht2] at q2
 rw[<-ht3] at H3
 rw[<-ht5] at q5
 rw[<-ht6] at H6
 rw[<-ht8] at q8
 rw[<-ht9] at H9
 rw[<-ht10] at H10
 rw[<-h11,<-hs11] at q11
 rw[<-h11,<-hs11,<-ht11,<-ht1,<-ht2,<-ht3,<-ht5,<-ht6,<-ht8,<-ht9,<-ht10] at hd
 rw[<-hs11,<-ht11]
 have HD:=zH hd
 clear h1 h2 h3 h4 h5 h6 h7 h8 h9 h10 h11 hd hs11 ht11 ht1 ht2 ht3 ht5 ht6 ht8 ht9 ht10
 obtain⟨k,E,O⟩:=σ
 obtain⟨k1,E1,O1⟩:=σ1
 obtain⟨k2,E2,O2⟩:=σ2
 obtain⟨k3,E3,O3⟩:=σ3
 obtain⟨k4,E4,O4⟩:=σ4
 obtain⟨k5,E5,O5⟩:=σ5
 obtain⟨k6,E6,O6⟩:=σ6
 obtain⟨k7,E7,O7⟩:=σ7
 obtain⟨k8,E8,O8⟩:=σ8
 obtain⟨k9,E9,O9⟩:=σ9
 obtain⟨k10,E10,O10⟩:=σ10
 obtain⟨k11,E11,O11⟩:=σ11
 simp only at h0
 subst h0
 simp only at q1 q2 q4 q5 q7 q8 q11 H3 H6 H9 H10 KO KW HD hk hkt hu b1 b2 b3 b4 b5 b6 b7 b8 b9 b10 |-
 obtain⟨at0,hat⟩:∃a,a=ag ts En (n-k):=⟨_,rfl⟩
 rw[<-hat] at KO
 have HAT:=zH hat
 clear hat hu
 obtain⟨kd,hkd⟩:∃x:Int,x=(u:Int)+1:=⟨_,rfl⟩
 have hkd0:(kd==0)=false:=by rw[hkd];simp;omega
 obtain⟨W3,hW3⟩:∃W3,W3=((w.alloc (.cells #[.slice p n cap,zI zL (k:Nat),zI zL En,zI zL 0,zI zL O] 62)).alloc (.cells #[.string ⟨#[]⟩,zI zL 0,zI zL 0,.string ⟨#[]⟩,zI zL 0,zI zL 0,zI zL 0,zI zL 0,zI zL 0,.string ⟨#[]⟩,zI zL 0,zI zL 0,.bool false,zI zL 0,zI zL 0,zI zL 0,.slice none 0 0,zI zL 0,zI zL 0,.string ⟨#[]⟩,zI zL 0,zI zL 0,.bool false,zI zL 0,zI zL 0,zI zL 0,.slice none 0 0,zI zL 0] 49)).alloc (.cells #[.slice none 0 0,zI zL 0,zI zL 0,zI zL 0,zI zL 0] 62):=⟨_,rfl⟩
 have F:Hid (FrL w W3 p n cap (k:Nat) En 0 O [.string ⟨#[]⟩,zI zL 0,zI zL 0,.string ⟨#[]⟩,zI zL 0,zI zL 0,zI zL 0,zI zL 0,zI zL 0,.string ⟨#[]⟩,zI zL 0,zI zL 0,.bool false,zI zL 0,zI zL 0,zI zL 0,.slice none 0 0,zI zL 0,zI zL 0,.string ⟨#[]⟩,zI zL 0,zI zL 0,.bool false,zI zL 0,zI zL 0,zI zL 0,.slice none 0 0,zI zL 0]):=by rw[hW3];exact FrL.new w p n cap (k:Nat) En 0 O [.string ⟨#[]⟩,zI zL 0,zI zL 0,.string ⟨#[]⟩,zI zL 0,zI zL 0,zI zL 0,zI zL 0,zI zL 0,.string ⟨#[]⟩,zI zL 0,zI zL 0,.bool false,zI zL 0,zI zL 0,zI zL 0,.slice none 0 0,zI zL 0,zI zL 0,.string ⟨#[]⟩,zI zL 0,zI zL 0,.bool false,zI zL 0,zI zL 0,zI zL 0,.slice none 0 0,zI zL 0] zah 62 49
 go_enter Tryz.func22,Tryz.ntmps22
 go_wp2_with fail
 rw[<-hW3]
 clear hW3
 obtain⟨c0,c1,c2,c3,c4,f0,f1,f2,f3,f4⟩:=F.out.A
 refine(KO.out _ (HS.out.bel F.out.B)).mono ?_
 rintro _ v0 ⟨rfl,hb⟩
 replace F:=zH (F.out.bel hb)
 have lo:=World.block_lt_of_cell? _ _ F.out.R.c0
 simp only at lo
 clear hb c0 c1 c2 c3 c4 f0 f1 f2 f3 f4
 obtain⟨c0,c1,c2,c3,c4,f0,f1,f2,f3,f4⟩:=F.out.A
 have lc:=World.block_lt_of_cell? _ _ c0
 simp only at lc
 go_wp2_with fail
 have HKDv:=zH hkd
 clear hkd
 obtain⟨K0,hK0⟩:∃K0:Act->World->Prop,K0=(fun a V=>∃(db:Nat),IsActR w.heap.size db at0 a/\w.heap.size+2<db/\db<V.heap.size/\Hid (FrL w V p n cap (k:Nat) En 0 O [.string ⟨#[]⟩,zI zL 0,zI zL 0,.string ⟨#[]⟩,zI zL 0,zI zL 0,zI zL 0,zI zL 0,zI zL 0,.string ⟨#[]⟩,zI zL 0,zI zL 0,.bool false,zI zL 0,zI zL 0,zI zL 0,.slice none 0 0,zI zL 0,zI zL 0,.string ⟨#[]⟩,zI zL 0,zI zL 0,.bool false,zI zL 0,zI zL 0,zI zL 0,.slice none 0 0,zI zL 0])/\Hid (aH V db [.string ⟨#[]⟩,zI zL 0,zI zL kd,.string ⟨#[]⟩,zI zL 0,zI zL 36525,zI zL 0,zI zL 17,zI zL at0,.string ⟨#[]⟩,zI zL 0,zI zL 0,.bool false,zI zL 0,zI zL 0,zI zL 0,.slice none 0 0,zI zL 1,zI zL at0,.string ⟨#[]⟩,zI zL 0,zI zL 1,.bool false,zI zL 0,zI zL 0,zI zL 0,.slice none 0 0,zI zL at0])):=⟨_,rfl⟩
 have HK0:=zH hK0
 clear hK0
 rename_i hKrest
 refine Code.wp_mono (Q:=Exit.then K0 (fun _ _ _=>False)) ?_ ?_
 rotate_left
 ·have hb:=(Below.refl v0.heap.size v0).drew
  have hS:Hid (B5 v0.drew w.heap.size (.slice p n cap) (zI zL (k:Nat)) (zI zL En) (zI zL 0) (zI zL O)):=F.out.A.bel hb
  refine wp_region_held (S:=fun w':World=>Hid (B5 w' w.heap.size (.slice p n cap) (zI zL (k:Nat)) (zI zL En) (zI zL 0) (zI zL O))) mixed ?_
  change wpAnyH _ _ _ _ _ _ _ _ v0.drew
  replace F:=zH (F.out.bel hb)
  clear hb c0 c1 c2 c3 c4 f0 f1 f2 f3 f4
  generalize v0.drew=U0 at *
  refine tk0 (v:= zI zL at0) zab zab zab (fun _ _ _ h=>h) (Or.inl ⟨zab,?_⟩) hS ?_
  ·intro w' hSw
   go_simp;try with_reducible rfl
  simp only[Act.put,zA,zB,zC]
  refine tk1 (v:= .agg #[.slice p n cap,zI zL (k:Nat),zI zL En,zI zL 0,zI zL O]) zab zab zab (fun _ _ _ h=>h) (Or.inl ⟨zab,?_⟩) hS ?_
  ·exact AJ
  simp only[Act.put,zA,zB,zC]
  refine tk5 (v:= .agg #[zI zL 0,zI zL 36525]) zab zab zab (fun _ _ _ h=>h) (Or.inl ⟨zab,?_⟩) hS ?_
  ·intro w' hSw
   go_simp;try with_reducible rfl
  simp only[Act.put,zA,zB,zC]
  refine tk6 (v:= zI zL at0) zab zab zab (fun _ _ _ h=>h) (Or.inl ⟨zab,?_⟩) hS ?_
  ·intro w' hSw
   go_simp;try with_reducible rfl
  simp only[Act.put,zA,zB,zC]
  refine tk7 (v:= .agg #[zI zL 17,zI zL at0,.string ⟨#[]⟩,zI zL 0,zI zL 0,.bool false,zI zL 0,zI zL 0,zI zL 0,.slice none 0 0]) zab zab zab (fun _ _ _ h=>h) (Or.inl ⟨zab,?_⟩) hS ?_
  ·intro w' hSw
   go_simp;try with_reducible rfl
  simp only[Act.put,zA,zB,zC]
  refine tk8 (v:= zI zL at0) zab zab zab (fun _ _ _ h=>h) (Or.inl ⟨zab,?_⟩) hS ?_
  ·intro w' hSw
   go_simp;try with_reducible rfl
  simp only[Act.put,zA,zB,zC]
  refine tk9 (v:= .agg #[zI zL 0,zI zL 1]) zab zab zab (fun _ _ _ h=>h) (Or.inl ⟨zab,?_⟩) hS ?_
  ·intro w' hSw
   go_simp;try with_reducible rfl
  simp only[Act.put,zA,zB,zC]
  refine Cs (v:= .agg #[zI zL 1,zI zL at0,.string ⟨#[]⟩,zI zL 0,zI zL 1,.bool false,zI zL 0,zI zL 0,zI zL 0,.slice none 0 0]) zab zab zab (fun _ _ _ h=>h) (Or.inl ⟨zab,?_⟩) hS ?_
  ·intro w' hSw
   go_simp;try with_reducible rfl
  simp only[Act.put,zA,zB,zC]
  refine wpAnyH_ready (rs:=[2,12]) zab (by simp) (st2 (fun K hK=>?_) (Am (fun K hK=>?_) AllReadyH.nil))
  ·go_simp
   refine(KU.out _).mono ?_
   rintro _ v5 ⟨qu,bu,capu,rfl,hs5,hb⟩
   go_wp2_with fail
   replace F:=zH (F.out.bel hb)
   clear hb
   replace hS:Hid (B5 v5 w.heap.size (.slice p n cap) (zI zL (k:Nat)) (zI zL En) (zI zL 0) (zI zL O)):=F.out.A
   refine hK.out _ _ ?_ (fun hHeld=>?_)
   ·exact hS
   clear hK K
   try simp only[Act.put,zA,zB,zC]
   refine wpAnyH_ready (rs:=[3,12]) zab (by simp) (st3 (fun K hK=>?_) (Am (fun K hK=>?_) AllReadyH.nil))
   ·go_simp
    refine(KW.out _ _ _ _ (HS.out.bel F.out.B) hs5).mono ?_
    rintro _ v6 ⟨rfl,hb⟩
    go_wp2_with fail
    replace F:=zH (F.out.bel hb)
    clear hb
    replace hS:Hid (B5 v6 w.heap.size (.slice p n cap) (zI zL (k:Nat)) (zI zL En) (zI zL 0) (zI zL O)):=F.out.A
    refine hK.out _ _ ?_ (fun hHeld=>?_)
    ·exact hS
    clear hK K
    try simp only[Act.put,zA,zB,zC]
    refine tk4 (v:= zI zL kd) zab zab zab (fun _ _ _ h=>h) (Or.inl ⟨zab,?_⟩) hS ?_
    ·intro w' hSw
     have hwr:IntKind.i64.wrap ((u:Int)+1)=kd:=by rw[HKDv.out];exact IntWalk.i64_in _ zac
     go_simp
     first|done|(rw[hwr];done)|(simp[hwr];done)
    simp only[Act.put,zA,zB,zC]
    refine CS (v:= .agg #[.string ⟨#[]⟩,zI zL 0,zI zL kd,.string ⟨#[]⟩,zI zL 0,zI zL 36525,zI zL 0,zI zL 17,zI zL at0,.string ⟨#[]⟩,zI zL 0,zI zL 0,.bool false,zI zL 0,zI zL 0,zI zL 0,.slice none 0 0,zI zL 1,zI zL at0,.string ⟨#[]⟩,zI zL 0,zI zL 1,.bool false,zI zL 0,zI zL 0,zI zL 0,.slice none 0 0,zI zL at0]) zab zab zab (fun _ _ _ h=>h) (Or.inl ⟨zab,?_⟩) hS ?_
    ·intro w' hSw
     exact jv rfl (fw _ _ _)
    simp only[Act.put,zA,zB,zC]
    refine wpAnyH_ready (rs:=[12]) zab (by simp) (Am (fun K hK=>?_) AllReadyH.nil)
    refine(if_pos zab).mpr ?_
    refine fC rfl (bK _) ?_
    have hb:=(Below.refl v6.heap.size v6).alloc (Nat.le_refl _) (.cells cK 49)
    have D:Hid (aH (v6.alloc (.cells cK 49)) v6.heap.size [.string ⟨#[]⟩,zI zL 0,zI zL 0,.string ⟨#[]⟩,zI zL 0,zI zL 0,zI zL 0,zI zL 0,zI zL 0,.string ⟨#[]⟩,zI zL 0,zI zL 0,.bool false,zI zL 0,zI zL 0,zI zL 0,.slice none 0 0,zI zL 0,zI zL 0,.string ⟨#[]⟩,zI zL 0,zI zL 0,.bool false,zI zL 0,zI zL 0,zI zL 0,.slice none 0 0,zI zL 0]):=aH.new v6 [.string ⟨#[]⟩,zI zL 0,zI zL 0,.string ⟨#[]⟩,zI zL 0,zI zL 0,zI zL 0,zI zL 0,zI zL 0,.string ⟨#[]⟩,zI zL 0,zI zL 0,.bool false,zI zL 0,zI zL 0,zI zL 0,.slice none 0 0,zI zL 0,zI zL 0,.string ⟨#[]⟩,zI zL 0,zI zL 0,.bool false,zI zL 0,zI zL 0,zI zL 0,.slice none 0 0,zI zL 0] 49
    have FR:=F
    replace F:=zH (F.out.bel hb)
    have hS1:Hid (B5 (v6.alloc (.cells cK 49)) w.heap.size (.slice p n cap) (zI zL (k:Nat)) (zI zL En) (zI zL 0) (zI zL O)):=F.out.A
    replace hS:=hS1
    clear hS1
    have ldb:w.heap.size+2<v6.heap.size:=zba
    clear hb FR
    generalize v6.alloc (.cells cK 49)=UA at *
    generalize v6.heap.size=db at *
    refine hK.out _ _ ?_ (fun hHeld=>?_)
    ·exact hS
    clear hK K
    try simp only[Act.put,zA,zB,zC]
    refine wpAnyH_ready (rs:=[13]) zab (by simp) (Ew (fun K hK=>?_) AllReadyH.nil)
    refine(if_pos zab).mpr ?_
    refine gz rfl rfl rfl (dz 49 28 zab UA db [.string ⟨#[]⟩,zI zL 0,zI zL 0,.string ⟨#[]⟩,zI zL 0,zI zL 0,zI zL 0,zI zL 0,zI zL 0,.string ⟨#[]⟩,zI zL 0,zI zL 0,.bool false,zI zL 0,zI zL 0,zI zL 0,.slice none 0 0,zI zL 0,zI zL 0,.string ⟨#[]⟩,zI zL 0,zI zL 0,.bool false,zI zL 0,zI zL 0,zI zL 0,.slice none 0 0,zI zL 0] [.string ⟨#[]⟩,zI zL 0,zI zL kd,.string ⟨#[]⟩,zI zL 0,zI zL 36525,zI zL 0,zI zL 17,zI zL at0,.string ⟨#[]⟩,zI zL 0,zI zL 0,.bool false,zI zL 0,zI zL 0,zI zL 0,.slice none 0 0,zI zL 1,zI zL at0,.string ⟨#[]⟩,zI zL 0,zI zL 1,.bool false,zI zL 0,zI zL 0,zI zL 0,.slice none 0 0,zI zL at0] D.out rfl rfl zbj) ?_
    replace D:=zH (D.out.cells (L:=[.string ⟨#[]⟩,zI zL 0,zI zL kd,.string ⟨#[]⟩,zI zL 0,zI zL 36525,zI zL 0,zI zL 17,zI zL at0,.string ⟨#[]⟩,zI zL 0,zI zL 0,.bool false,zI zL 0,zI zL 0,zI zL 0,.slice none 0 0,zI zL 1,zI zL at0,.string ⟨#[]⟩,zI zL 0,zI zL 1,.bool false,zI zL 0,zI zL 0,zI zL 0,.slice none 0 0,zI zL at0]) rfl)
    have hk:=aT (b:=db) (w:=UA) [.string ⟨#[]⟩,zI zL 0,zI zL kd,.string ⟨#[]⟩,zI zL 0,zI zL 36525,zI zL 0,zI zL 17,zI zL at0,.string ⟨#[]⟩,zI zL 0,zI zL 0,.bool false,zI zL 0,zI zL 0,zI zL 0,.slice none 0 0,zI zL 1,zI zL at0,.string ⟨#[]⟩,zI zL 0,zI zL 1,.bool false,zI zL 0,zI zL 0,zI zL 0,.slice none 0 0,zI zL at0] 0 UA (Kept.refl _ _)
    replace F:=zH (F.out.kept hk ldb)
    replace hS:Hid (B5 _ w.heap.size (.slice p n cap) (zI zL (k:Nat)) (zI zL En) (zI zL 0) (zI zL O)):=F.out.A
    clear hk
    generalize UA.setCells db 0 [.string ⟨#[]⟩,zI zL 0,zI zL kd,.string ⟨#[]⟩,zI zL 0,zI zL 36525,zI zL 0,zI zL 17,zI zL at0,.string ⟨#[]⟩,zI zL 0,zI zL 0,.bool false,zI zL 0,zI zL 0,zI zL 0,.slice none 0 0,zI zL 1,zI zL at0,.string ⟨#[]⟩,zI zL 0,zI zL 1,.bool false,zI zL 0,zI zL 0,zI zL 0,.slice none 0 0,zI zL at0]=UB at *
    exact zz45
   ·refine(if_pos zab).mpr ?_
    refine fC rfl (bK _) ?_
    have hb:=(Below.refl v5.heap.size v5).alloc (Nat.le_refl _) (.cells cK 49)
    have D:Hid (aH (v5.alloc (.cells cK 49)) v5.heap.size [.string ⟨#[]⟩,zI zL 0,zI zL 0,.string ⟨#[]⟩,zI zL 0,zI zL 0,zI zL 0,zI zL 0,zI zL 0,.string ⟨#[]⟩,zI zL 0,zI zL 0,.bool false,zI zL 0,zI zL 0,zI zL 0,.slice none 0 0,zI zL 0,zI zL 0,.string ⟨#[]⟩,zI zL 0,zI zL 0,.bool false,zI zL 0,zI zL 0,zI zL 0,.slice none 0 0,zI zL 0]):=aH.new v5 [.string ⟨#[]⟩,zI zL 0,zI zL 0,.string ⟨#[]⟩,zI zL 0,zI zL 0,zI zL 0,zI zL 0,zI zL 0,.string ⟨#[]⟩,zI zL 0,zI zL 0,.bool false,zI zL 0,zI zL 0,zI zL 0,.slice none 0 0,zI zL 0,zI zL 0,.string ⟨#[]⟩,zI zL 0,zI zL 0,.bool false,zI zL 0,zI zL 0,zI zL 0,.slice none 0 0,zI zL 0] 49
    have FR:=F
    replace F:=zH (F.out.bel hb)
    have hS1:Hid (B5 (v5.alloc (.cells cK 49)) w.heap.size (.slice p n cap) (zI zL (k:Nat)) (zI zL En) (zI zL 0) (zI zL O)):=F.out.A
    replace hS:=hS1
    clear hS1
    replace hs5:=hs5.bel hb
    have ldb:w.heap.size+2<v5.heap.size:=zba
    clear hb FR
    generalize v5.alloc (.cells cK 49)=UA at *
    generalize v5.heap.size=db at *
    exact zz22
  ·refine(if_pos zab).mpr ?_
   refine fC rfl (bK _) ?_
   have hb:=(Below.refl U0.heap.size U0).alloc (Nat.le_refl _) (.cells cK 49)
   have D:Hid (aH (U0.alloc (.cells cK 49)) U0.heap.size [.string ⟨#[]⟩,zI zL 0,zI zL 0,.string ⟨#[]⟩,zI zL 0,zI zL 0,zI zL 0,zI zL 0,zI zL 0,.string ⟨#[]⟩,zI zL 0,zI zL 0,.bool false,zI zL 0,zI zL 0,zI zL 0,.slice none 0 0,zI zL 0,zI zL 0,.string ⟨#[]⟩,zI zL 0,zI zL 0,.bool false,zI zL 0,zI zL 0,zI zL 0,.slice none 0 0,zI zL 0]):=aH.new U0 [.string ⟨#[]⟩,zI zL 0,zI zL 0,.string ⟨#[]⟩,zI zL 0,zI zL 0,zI zL 0,zI zL 0,zI zL 0,.string ⟨#[]⟩,zI zL 0,zI zL 0,.bool false,zI zL 0,zI zL 0,zI zL 0,.slice none 0 0,zI zL 0,zI zL 0,.string ⟨#[]⟩,zI zL 0,zI zL 0,.bool false,zI zL 0,zI zL 0,zI zL 0,.slice none 0 0,zI zL 0] 49
   have FR:=F
   replace F:=zH (F.out.bel hb)
   have hS1:Hid (B5 (U0.alloc (.cells cK 49)) w.heap.size (.slice p n cap) (zI zL (k:Nat)) (zI zL En) (zI zL 0) (zI zL O)):=F.out.A
   replace hS:=hS1
   clear hS1
   have ldb:w.heap.size+2<U0.heap.size:=zba
   clear hb FR
   generalize U0.alloc (.cells cK 49)=UA at *
   generalize U0.heap.size=db at *
   refine hK.out _ _ ?_ (fun hHeld=>?_)
   ·exact hS
   clear hK K
   try simp only[Act.put,zA,zB,zC]
   refine wpAnyH_ready (rs:=[2]) zab (by simp) (st2 (fun K hK=>?_) AllReadyH.nil)
   go_simp
   refine(KU.out _).mono ?_
   rintro _ v5 ⟨qu,bu,capu,rfl,hs5,hb⟩
   go_wp2_with fail
   replace F:=zH (F.out.bel hb)
   replace D:=zH (D.out.bel (Nat.succ_pos _) hb)
   clear hb
   replace hS:Hid (B5 v5 w.heap.size (.slice p n cap) (zI zL (k:Nat)) (zI zL En) (zI zL 0) (zI zL O)):=F.out.A
   exact zz22
 intro e a v hv
 have hen:e = .normal/\K0 a v:=by cases e<;>first|exact⟨rfl,hv⟩|exact hv.elim
 clear hv
 obtain⟨rfl,hv⟩:=hen
 rw[HK0.out] at hv
 clear HK0
 clear F lo lc c0 c1 c2 c3 c4 f0 f1 f2 f3 f4
 obtain⟨db,ha,hdb,hdv,F,D⟩:=hv
 cases ha
 refine hKrest _ _ ?_
 clear hKrest
 obtain⟨K0,hK0⟩:∃K0:Act->World->Prop,K0=(fun a V=>∃(db:Nat),IsActR w.heap.size db at0 a/\w.heap.size+2<db/\db<V.heap.size/\Hid (FrL w V p n cap (k:Nat) En 0 O [.string ⟨#[]⟩,zI zL 0,zI zL 0,.string ⟨#[]⟩,zI zL 0,zI zL 0,zI zL 0,zI zL 0,zI zL 0,.string ⟨#[]⟩,zI zL 0,zI zL 0,.bool false,zI zL 0,zI zL 0,zI zL 0,.slice none 0 0,zI zL 0,zI zL 0,.string ⟨#[]⟩,zI zL 0,zI zL 0,.bool false,zI zL 0,zI zL 0,zI zL 0,.slice none 0 0,zI zL 0])/\Hid (aH V db [.string ⟨#[]⟩,zI zL 0,zI zL kd,.string ⟨#[]⟩,zI zL 0,zI zL 36525,zI zL 0,zI zL 17,zI zL at0,.string ⟨#[]⟩,zI zL 0,zI zL 0,.bool false,zI zL 0,zI zL 0,zI zL 0,.slice none 0 0,zI zL 1,zI zL at0,.string ⟨#[]⟩,zI zL 0,zI zL 1,.bool false,zI zL 0,zI zL 0,zI zL 0,.slice none 0 0,zI zL at0])):=⟨_,rfl⟩
 have HK0:=zH hK0
 clear hK0
 refine az K0 ?_ ?_
 rotate_left
 ·intro J K hJ hK
  have HJ:=zH hJ
  clear hJ
  obtain⟨c0,c1,c2,c3,c4,f0,f1,f2,f3,f4⟩:=F.out.A
  obtain⟨dc2,df2⟩:=D.out 2 _ rfl
  go_wp2_with fail
  clear dc2 df2
  refine Handed.intro 0 zah (HJ.out 0 _ _ ?_)
  rw[HK0.out]
  exact⟨db,zbc,hdb,D.out.lt (Nat.succ_pos _),F,D⟩
 rw[HK0.out]
 clear HK0
 rintro a v ⟨db,ha,hdb,hdv,F,D⟩
 cases ha
 obtain⟨K0,hK0⟩:∃K0:Act->World->Prop,K0=(fun a V=>∃(db:Nat),IsActR w.heap.size db at0 a/\w.heap.size+2<db/\db<V.heap.size/\Hid (FrL w V p n cap ((k:Int)+1) En 0 O [.string ⟨#[]⟩,zI zL 0,zI zL 0,.string ⟨#[]⟩,zI zL 0,zI zL 0,zI zL 0,zI zL 0,zI zL 0,.string ⟨#[]⟩,zI zL 0,zI zL 0,.bool false,zI zL 0,zI zL 0,zI zL 0,.slice none 0 0,zI zL 0,zI zL 0,.string ⟨#[]⟩,zI zL 0,zI zL 0,.bool false,zI zL 0,zI zL 0,zI zL 0,.slice none 0 0,zI zL 0])/\Hid (aH V db [.string ⟨#[]⟩,zI zL 0,zI zL kd,.string ⟨#[]⟩,zI zL 0,zI zL 36525,zI zL 0,zI zL 17,zI zL at0,.string ⟨#[]⟩,zI zL 0,zI zL 0,.bool false,zI zL 0,zI zL 0,zI zL 0,.slice none 0 0,zI zL 1,zI zL at0,.string ⟨#[]⟩,zI zL 0,zI zL 1,.bool false,zI zL 0,zI zL 0,zI zL 0,.slice none 0 0,zI zL at0])):=⟨_,rfl⟩
 have HK0:=zH hK0
 clear hK0
 refine az K0 ?_ ?_
 rotate_left
 ·intro J K hJ hK
  have HJ:=zH hJ
  clear hJ
  have hk1:IntKind.i64.wrap ((k:Int)+1)=(k:Int)+1:=zbo
  obtain⟨c0,c1,c2,c3,c4,f0,f1,f2,f3,f4⟩:=F.out.A
  go_wp2_with fail
  obtain⟨hF,hK⟩:=F.out.inc ((k:Int)+1)
  replace F:=zH hF
  replace D:=zH (D.out.call (Nat.succ_pos _) hK zac)
  clear hF hK c0 c1 c2 c3 c4 f0 f1 f2 f3 f4
  refine Handed.intro 0 zah (HJ.out 0 _ _ ?_)
  rw[HK0.out]
  exact⟨db,zbc,hdb,D.out.lt (Nat.succ_pos _),F,D⟩
 rw[HK0.out]
 clear HK0
 rintro a v ⟨db,ha,hdb,hdv,F,D⟩
 cases ha
 obtain⟨K0,hK0⟩:∃K0:Act->World->Prop,K0=(fun a V=>∃(db:Nat) (nmv:ByteArray),IsActR w.heap.size db at0 a/\w.heap.size+2<db/\db<V.heap.size/\Hid (FrL w V p n cap (k1:Nat) En E1 O1 [.string ⟨#[]⟩,zI zL 0,zI zL 0,.string ⟨#[]⟩,zI zL 0,zI zL 0,zI zL 0,zI zL 0,zI zL 0,.string ⟨#[]⟩,zI zL 0,zI zL 0,.bool false,zI zL 0,zI zL 0,zI zL 0,.slice none 0 0,zI zL 0,zI zL 0,.string ⟨#[]⟩,zI zL 0,zI zL 0,.bool false,zI zL 0,zI zL 0,zI zL 0,.slice none 0 0,zI zL 0])/\Hid (aH V db [.string nmv,zI zL 0,zI zL kd,.string ⟨#[]⟩,zI zL 0,zI zL 36525,zI zL 0,zI zL 17,zI zL at0,.string ⟨#[]⟩,zI zL 0,zI zL 0,.bool false,zI zL 0,zI zL 0,zI zL 0,.slice none 0 0,zI zL 1,zI zL at0,.string ⟨#[]⟩,zI zL 0,zI zL 1,.bool false,zI zL 0,zI zL 0,zI zL 0,.slice none 0 0,zI zL at0])/\Hid (∀u,t1=some u->nmv=bs u)):=⟨_,rfl⟩
 have HK0:=zH hK0
 clear hK0
 refine az K0 ?_ ?_
 rotate_left
 ·intro J K hJ hK
  have HJ:=zH hJ
  clear hJ
  rw[show((k+1:Nat):Int)=(k:Int)+1 by omega] at q1
  obtain⟨c0,c1,c2,c3,c4,f0,f1,f2,f3,f4⟩:=F.out.A
  go_wp2_with fail
  refine(q1.out _ (HS.out.bel F.out.B)).mono ?_
  rintro _ v1 ⟨nmv,rfl,hnmv,hb⟩
  have Hnmv:=zH hnmv
  clear hnmv
  replace F:=zH (F.out.bel hb)
  replace D:=zH (D.out.bel (Nat.succ_pos _) hb)
  clear hb c0 c1 c2 c3 c4 f0 f1 f2 f3 f4
  obtain⟨c0,c1,c2,c3,c4,f0,f1,f2,f3,f4⟩:=F.out.A
  obtain⟨dc0,df0⟩:=D.out 0 _ rfl
  go_wp2_with fail
  clear dc0 df0
  have hk:=((Kept.refl db v1).setCell 0 none (.string nmv))
  replace F:=zH (F.out.kept hk zac)
  replace D:Hid (aH (v1.setCell ⟨db,0,none⟩ (.string nmv)) db [.string nmv,zI zL 0,zI zL kd,.string ⟨#[]⟩,zI zL 0,zI zL 36525,zI zL 0,zI zL 17,zI zL at0,.string ⟨#[]⟩,zI zL 0,zI zL 0,.bool false,zI zL 0,zI zL 0,zI zL 0,.slice none 0 0,zI zL 1,zI zL at0,.string ⟨#[]⟩,zI zL 0,zI zL 1,.bool false,zI zL 0,zI zL 0,zI zL 0,.slice none 0 0,zI zL at0]):=(D.out.set 0 (.string nmv))
  clear hk
  obtain⟨hF,hK⟩:=F.out.put (k1:Nat) E1 O1
  replace F:=zH hF
  replace D:=zH (D.out.call (Nat.succ_pos _) hK zac)
  clear hF hK c0 c1 c2 c3 c4 f0 f1 f2 f3 f4
  refine Handed.intro 0 zah (HJ.out 0 _ _ ?_)
  rw[HK0.out]
  exact⟨db,nmv,zbc,hdb,D.out.lt (Nat.succ_pos _),F,D,Hnmv⟩
 rw[HK0.out]
 clear HK0
 rintro a v ⟨db,nmv,ha,hdb,hdv,F,D,Hnmv⟩
 cases ha
 obtain⟨K0,hK0⟩:∃K0:Act->World->Prop,K0=(fun a V=>∃(db:Nat) (nmv:ByteArray) (vrv:Int),IsActR w.heap.size db at0 a/\w.heap.size+2<db/\db<V.heap.size/\Hid (FrL w V p n cap (k2:Nat) En E2 O2 [.string ⟨#[]⟩,zI zL 0,zI zL 0,.string ⟨#[]⟩,zI zL 0,zI zL 0,zI zL 0,zI zL 0,zI zL 0,.string ⟨#[]⟩,zI zL 0,zI zL 0,.bool false,zI zL 0,zI zL 0,zI zL 0,.slice none 0 0,zI zL 0,zI zL 0,.string ⟨#[]⟩,zI zL 0,zI zL 0,.bool false,zI zL 0,zI zL 0,zI zL 0,.slice none 0 0,zI zL 0])/\Hid (aH V db [.string nmv,zI zL vrv,zI zL kd,.string ⟨#[]⟩,zI zL 0,zI zL 36525,zI zL 0,zI zL 17,zI zL at0,.string ⟨#[]⟩,zI zL 0,zI zL 0,.bool false,zI zL 0,zI zL 0,zI zL 0,.slice none 0 0,zI zL 1,zI zL at0,.string ⟨#[]⟩,zI zL 0,zI zL 1,.bool false,zI zL 0,zI zL 0,zI zL 0,.slice none 0 0,zI zL at0])/\Hid (∀u,t1=some u->nmv=bs u)/\Hid (∀u,t2=some u->vrv=u)):=⟨_,rfl⟩
 have HK0:=zH hK0
 clear hK0
 refine az K0 ?_ ?_
 rotate_left
 ·intro J K hJ hK
  have HJ:=zH hJ
  clear hJ
  obtain⟨c0,c1,c2,c3,c4,f0,f1,f2,f3,f4⟩:=F.out.A
  go_wp2_with fail
  refine(q2.out _ (HS.out.bel F.out.B)).mono ?_
  rintro _ v1 ⟨vrv,rfl,hvrv,hb⟩
  have Hvrv:=zH hvrv
  clear hvrv
  replace F:=zH (F.out.bel hb)
  replace D:=zH (D.out.bel (Nat.succ_pos _) hb)
  clear hb c0 c1 c2 c3 c4 f0 f1 f2 f3 f4
  obtain⟨c0,c1,c2,c3,c4,f0,f1,f2,f3,f4⟩:=F.out.A
  obtain⟨dc1,df1⟩:=D.out 1 _ rfl
  go_wp2_with fail
  clear dc1 df1
  have hk:=((Kept.refl db v1).setCell 1 none (zI zL vrv))
  replace F:=zH (F.out.kept hk zac)
  replace D:Hid (aH (v1.setCell ⟨db,1,none⟩ (zI zL vrv)) db [.string nmv,zI zL vrv,zI zL kd,.string ⟨#[]⟩,zI zL 0,zI zL 36525,zI zL 0,zI zL 17,zI zL at0,.string ⟨#[]⟩,zI zL 0,zI zL 0,.bool false,zI zL 0,zI zL 0,zI zL 0,.slice none 0 0,zI zL 1,zI zL at0,.string ⟨#[]⟩,zI zL 0,zI zL 1,.bool false,zI zL 0,zI zL 0,zI zL 0,.slice none 0 0,zI zL at0]):=(D.out.set 1 (zI zL vrv))
  clear hk
  obtain⟨hF,hK⟩:=F.out.put (k2:Nat) E2 O2
  replace F:=zH hF
  replace D:=zH (D.out.call (Nat.succ_pos _) hK zac)
  clear hF hK c0 c1 c2 c3 c4 f0 f1 f2 f3 f4
  refine Handed.intro 0 zah (HJ.out 0 _ _ ?_)
  rw[HK0.out]
  exact⟨db,nmv,vrv,zbc,hdb,D.out.lt (Nat.succ_pos _),F,D,Hnmv,Hvrv⟩
 rw[HK0.out]
 clear HK0
 rintro a v ⟨db,nmv,vrv,ha,hdb,hdv,F,D,Hnmv,Hvrv⟩
 cases ha
 obtain⟨K0,hK0⟩:∃K0:Act->World->Prop,K0=(fun a V=>∃(db:Nat) (nmv:ByteArray) (vrv:Int) (acv:ByteArray),IsActR w.heap.size db at0 a/\w.heap.size+2<db/\db<V.heap.size/\Hid (FrL w V p n cap (k3:Nat) En E3 O3 [.string ⟨#[]⟩,zI zL 0,zI zL 0,.string ⟨#[]⟩,zI zL 0,zI zL 0,zI zL 0,zI zL 0,zI zL 0,.string ⟨#[]⟩,zI zL 0,zI zL 0,.bool false,zI zL 0,zI zL 0,zI zL 0,.slice none 0 0,zI zL 0,zI zL 0,.string ⟨#[]⟩,zI zL 0,zI zL 0,.bool false,zI zL 0,zI zL 0,zI zL 0,.slice none 0 0,zI zL 0])/\Hid (aH V db [.string nmv,zI zL vrv,zI zL kd,.string acv,zI zL 0,zI zL 36525,zI zL 0,zI zL 17,zI zL at0,.string ⟨#[]⟩,zI zL 0,zI zL 0,.bool false,zI zL 0,zI zL 0,zI zL 0,.slice none 0 0,zI zL 1,zI zL at0,.string ⟨#[]⟩,zI zL 0,zI zL 1,.bool false,zI zL 0,zI zL 0,zI zL 0,.slice none 0 0,zI zL at0])/\Hid (∀u,t1=some u->nmv=bs u)/\Hid (∀u,t2=some u->vrv=u)/\Hid (∀u,t3=some u->acv=bs u)):=⟨_,rfl⟩
 have HK0:=zH hK0
 clear hK0
 refine az K0 ?_ ?_
 rotate_left
 ·intro J K hJ hK
  have HJ:=zH hJ
  clear hJ
  rcases H3.out with ⟨h0,hkt2,hw,hr,hv⟩|⟨hno,hr,hv⟩
  ·subst h0
   have qi:Hid (∀w1,SlT w1 p b off n ts->_):=fun w1 hS1=>bE bC ts p b off cap n k2 En O2 w1 hS1
   rw[hw] at qi
   have qc:Hid (∀w1,SlT w1 p b off n ts->_):=fun w1 hS1=>lK (En:=En) (cap:=cap) hT (Sg.mk (k2+1) 0 O2) (by show k2+1<=_;omega) w1 hS1
   rw[<-hr,<-hv] at qc
   simp only at qc
   rw[show((k2+1:Nat):Int)=(k2:Int)+1 by omega] at qc
   have hk1:IntKind.i64.wrap ((k2:Int)+1)=(k2:Int)+1:=zbo
   clear hr hv hw
   obtain⟨c0,c1,c2,c3,c4,f0,f1,f2,f3,f4⟩:=F.out.A
   go_wp2_with fail
   refine(qi.out _ (HS.out.bel F.out.B)).mono ?_
   rintro _ v0 ⟨rfl,hb⟩
   replace F:=zH (F.out.bel hb)
   replace D:=zH (D.out.bel (Nat.succ_pos _) hb)
   clear hb qi c0 c1 c2 c3 c4 f0 f1 f2 f3 f4
   obtain⟨c0,c1,c2,c3,c4,f0,f1,f2,f3,f4⟩:=F.out.A
   go_wp2_with fail
   obtain⟨hF,hK⟩:=F.out.inc ((k2:Int)+1)
   replace F:=zH hF
   replace D:=zH (D.out.call (Nat.succ_pos _) hK zac)
   clear hF hK c0 c1 c2 c3 c4 f0 f1 f2 f3 f4
   generalize v0.setCell ⟨w.heap.size,1,none⟩ (zI zL ((k2:Int)+1))=V0 at *
   obtain⟨c0,c1,c2,c3,c4,f0,f1,f2,f3,f4⟩:=F.out.A
   refine(qc.out _ (HS.out.bel F.out.B)).mono ?_
   rintro _ v1 ⟨acv,rfl,hacv,hb⟩
   have Hacv:=zH hacv
   clear hacv
   replace F:=zH (F.out.bel hb)
   replace D:=zH (D.out.bel (Nat.succ_pos _) hb)
   clear hb c0 c1 c2 c3 c4 f0 f1 f2 f3 f4
   obtain⟨c0,c1,c2,c3,c4,f0,f1,f2,f3,f4⟩:=F.out.A
   obtain⟨dc3,df3⟩:=D.out 3 _ rfl
   go_wp2_with fail
   clear dc3 df3
   have hk:=((Kept.refl db v1).setCell 3 none (.string acv))
   replace F:=zH (F.out.kept hk zac)
   replace D:Hid (aH (v1.setCell ⟨db,3,none⟩ (.string acv)) db [.string nmv,zI zL vrv,zI zL kd,.string acv,zI zL 0,zI zL 36525,zI zL 0,zI zL 17,zI zL at0,.string ⟨#[]⟩,zI zL 0,zI zL 0,.bool false,zI zL 0,zI zL 0,zI zL 0,.slice none 0 0,zI zL 1,zI zL at0,.string ⟨#[]⟩,zI zL 0,zI zL 1,.bool false,zI zL 0,zI zL 0,zI zL 0,.slice none 0 0,zI zL at0]):=(D.out.set 3 (.string acv))
   clear hk
   obtain⟨hF,hK⟩:=F.out.put (k3:Nat) E3 O3
   exact zz96
  ·simp only[Sg.mk.injEq] at hr
   obtain⟨hk2,hE2,hO2⟩:=hr
   replace hk2:=hk2.symm
   replace hE2:=hE2.symm
   replace hO2:=hO2.symm
   subst hk2 hE2 hO2
   have qi:Hid (∀w1,SlT w1 p b off n ts->_):=fun w1 hS1=>iY (cap:=cap) (En:=En) bC (Sg.mk k2 E2 O2) hno w1 hS1
   simp only at qi
   have HV:=zH hv
   clear hno hv
   obtain⟨c0,c1,c2,c3,c4,f0,f1,f2,f3,f4⟩:=F.out.A
   go_wp2_with fail
   refine(qi.out _ (HS.out.bel F.out.B)).mono ?_
   rintro _ v0 ⟨rfl,hb⟩
   replace F:=zH (F.out.bel hb)
   replace D:=zH (D.out.bel (Nat.succ_pos _) hb)
   clear hb qi c0 c1 c2 c3 c4 f0 f1 f2 f3 f4
   go_wp2_with fail
   have Hacv:Hid (∀u,t3=some u->(⟨#[]⟩:ByteArray)=bs u):=by
    intro u hu
    rw[HV.out] at hu
    split at hu
    ·cases hu;rfl
    ·cases hu
   refine Handed.intro 0 zah (HJ.out 0 _ _ ?_)
   rw[HK0.out]
   exact⟨db,nmv,vrv,⟨#[]⟩,zbc,hdb,D.out.lt (Nat.succ_pos _),F,D,Hnmv,Hvrv,Hacv⟩
 rw[HK0.out]
 clear HK0
 rintro a v ⟨db,nmv,vrv,acv,ha,hdb,hdv,F,D,Hnmv,Hvrv,Hacv⟩
 cases ha
 obtain⟨K0,hK0⟩:∃K0:Act->World->Prop,K0=(fun a V=>∃(db:Nat) (nmv:ByteArray) (vrv:Int) (acv:ByteArray),IsActR w.heap.size db at0 a/\w.heap.size+2<db/\db<V.heap.size/\Hid (FrL w V p n cap (k4:Nat) En E4 O4 [.string ⟨#[]⟩,zI zL 0,zI zL 0,.string ⟨#[]⟩,zI zL 0,zI zL 0,zI zL 0,zI zL 0,zI zL 0,.string ⟨#[]⟩,zI zL 0,zI zL 0,.bool false,zI zL 0,zI zL 0,zI zL 0,.slice none 0 0,zI zL 0,zI zL 0,.string ⟨#[]⟩,zI zL 0,zI zL 0,.bool false,zI zL 0,zI zL 0,zI zL 0,.slice none 0 0,zI zL 0])/\Hid (aH V db [.string nmv,zI zL vrv,zI zL kd,.string acv,zI zL 0,zI zL 36525,zI zL 0,zI zL 17,zI zL at0,.string ⟨#[]⟩,zI zL 0,zI zL 0,.bool false,zI zL 0,zI zL 0,zI zL 0,.slice none 0 0,zI zL 1,zI zL at0,.string ⟨#[]⟩,zI zL 0,zI zL 1,.bool false,zI zL 0,zI zL 0,zI zL 0,.slice none 0 0,zI zL at0])/\Hid (∀u,t1=some u->nmv=bs u)/\Hid (∀u,t2=some u->vrv=u)/\Hid (∀u,t3=some u->acv=bs u)):=⟨_,rfl⟩
 have HK0:=zH hK0
 clear hK0
 refine az K0 ?_ ?_
 rotate_left
 ·intro J K hJ hK
  have HJ:=zH hJ
  clear hJ
  obtain⟨c0,c1,c2,c3,c4,f0,f1,f2,f3,f4⟩:=F.out.A
  go_wp2_with fail
  refine(q4.out _ (HS.out.bel F.out.B)).mono ?_
  rintro _ v1 ⟨rfl,hb⟩
  replace F:=zH (F.out.bel hb)
  replace D:=zH (D.out.bel (Nat.succ_pos _) hb)
  clear hb c0 c1 c2 c3 c4 f0 f1 f2 f3 f4
  obtain⟨c0,c1,c2,c3,c4,f0,f1,f2,f3,f4⟩:=F.out.A
  go_wp2_with fail
  obtain⟨hF,hK⟩:=F.out.put (k4:Nat) E4 O4
  exact zz96
 rw[HK0.out]
 clear HK0
 rintro a v ⟨db,nmv,vrv,acv,ha,hdb,hdv,F,D,Hnmv,Hvrv,Hacv⟩
 cases ha
 obtain⟨K0,hK0⟩:∃K0:Act->World->Prop,K0=(fun a V=>∃(db:Nat) (nmv:ByteArray) (vrv:Int) (acv:ByteArray) (frv:Int),IsActR w.heap.size db at0 a/\w.heap.size+2<db/\db<V.heap.size/\Hid (FrL w V p n cap (k5:Nat) En E5 O5 [.string ⟨#[]⟩,zI zL 0,zI zL 0,.string ⟨#[]⟩,zI zL 0,zI zL 0,zI zL 0,zI zL 0,zI zL 0,.string ⟨#[]⟩,zI zL 0,zI zL 0,.bool false,zI zL 0,zI zL 0,zI zL 0,.slice none 0 0,zI zL 0,zI zL 0,.string ⟨#[]⟩,zI zL 0,zI zL 0,.bool false,zI zL 0,zI zL 0,zI zL 0,.slice none 0 0,zI zL 0])/\Hid (aH V db [.string nmv,zI zL vrv,zI zL kd,.string acv,zI zL frv,zI zL 36525,zI zL 0,zI zL 17,zI zL at0,.string ⟨#[]⟩,zI zL 0,zI zL 0,.bool false,zI zL 0,zI zL 0,zI zL 0,.slice none 0 0,zI zL 1,zI zL at0,.string ⟨#[]⟩,zI zL 0,zI zL 1,.bool false,zI zL 0,zI zL 0,zI zL 0,.slice none 0 0,zI zL at0])/\Hid (∀u,t1=some u->nmv=bs u)/\Hid (∀u,t2=some u->vrv=u)/\Hid (∀u,t3=some u->acv=bs u)/\Hid (∀u,t5=some u->frv=u)):=⟨_,rfl⟩
 have HK0:=zH hK0
 clear hK0
 refine az K0 ?_ ?_
 rotate_left
 ·intro J K hJ hK
  have HJ:=zH hJ
  clear hJ
  obtain⟨c0,c1,c2,c3,c4,f0,f1,f2,f3,f4⟩:=F.out.A
  go_wp2_with fail
  refine(q5.out _ (HS.out.bel F.out.B)).mono ?_
  rintro _ v1 ⟨frv,rfl,hfrv,hb⟩
  have Hfrv:=zH hfrv
  clear hfrv
  replace F:=zH (F.out.bel hb)
  replace D:=zH (D.out.bel (Nat.succ_pos _) hb)
  clear hb c0 c1 c2 c3 c4 f0 f1 f2 f3 f4
  obtain⟨c0,c1,c2,c3,c4,f0,f1,f2,f3,f4⟩:=F.out.A
  obtain⟨dc4,df4⟩:=D.out 4 _ rfl
  go_wp2_with fail
  clear dc4 df4
  have hk:=((Kept.refl db v1).setCell 4 none (zI zL frv))
  replace F:=zH (F.out.kept hk zac)
  replace D:Hid (aH (v1.setCell ⟨db,4,none⟩ (zI zL frv)) db [.string nmv,zI zL vrv,zI zL kd,.string acv,zI zL frv,zI zL 36525,zI zL 0,zI zL 17,zI zL at0,.string ⟨#[]⟩,zI zL 0,zI zL 0,.bool false,zI zL 0,zI zL 0,zI zL 0,.slice none 0 0,zI zL 1,zI zL at0,.string ⟨#[]⟩,zI zL 0,zI zL 1,.bool false,zI zL 0,zI zL 0,zI zL 0,.slice none 0 0,zI zL at0]):=(D.out.set 4 (zI zL frv))
  clear hk
  obtain⟨hF,hK⟩:=F.out.put (k5:Nat) E5 O5
  replace F:=zH hF
  replace D:=zH (D.out.call (Nat.succ_pos _) hK zac)
  clear hF hK c0 c1 c2 c3 c4 f0 f1 f2 f3 f4
  refine Handed.intro 0 zah (HJ.out 0 _ _ ?_)
  rw[HK0.out]
  exact⟨db,nmv,vrv,acv,frv,zbc,hdb,D.out.lt (Nat.succ_pos _),F,D,Hnmv,Hvrv,Hacv,Hfrv⟩
 rw[HK0.out]
 clear HK0
 rintro a v ⟨db,nmv,vrv,acv,frv,ha,hdb,hdv,F,D,Hnmv,Hvrv,Hacv,Hfrv⟩
 cases ha
 obtain⟨K0,hK0⟩:∃K0:Act->World->Prop,K0=(fun a V=>∃(db:Nat) (nmv:ByteArray) (vrv:Int) (acv:ByteArray) (frv:Int) (unv:Int),IsActR w.heap.size db at0 a/\w.heap.size+2<db/\db<V.heap.size/\Hid (FrL w V p n cap (k6:Nat) En E6 O6 [.string ⟨#[]⟩,zI zL 0,zI zL 0,.string ⟨#[]⟩,zI zL 0,zI zL 0,zI zL 0,zI zL 0,zI zL 0,.string ⟨#[]⟩,zI zL 0,zI zL 0,.bool false,zI zL 0,zI zL 0,zI zL 0,.slice none 0 0,zI zL 0,zI zL 0,.string ⟨#[]⟩,zI zL 0,zI zL 0,.bool false,zI zL 0,zI zL 0,zI zL 0,.slice none 0 0,zI zL 0])/\Hid (aH V db [.string nmv,zI zL vrv,zI zL kd,.string acv,zI zL frv,zI zL unv,zI zL 0,zI zL 17,zI zL at0,.string ⟨#[]⟩,zI zL 0,zI zL 0,.bool false,zI zL 0,zI zL 0,zI zL 0,.slice none 0 0,zI zL 1,zI zL at0,.string ⟨#[]⟩,zI zL 0,zI zL 1,.bool false,zI zL 0,zI zL 0,zI zL 0,.slice none 0 0,zI zL at0])/\Hid (∀u,t1=some u->nmv=bs u)/\Hid (∀u,t2=some u->vrv=u)/\Hid (∀u,t3=some u->acv=bs u)/\Hid (∀u,t5=some u->frv=u)/\Hid (∀u,t6=some u->unv=u)):=⟨_,rfl⟩
 have HK0:=zH hK0
 clear hK0
 refine az K0 ?_ ?_
 rotate_left
 ·intro J K hJ hK
  have HJ:=zH hJ
  clear hJ
  rcases H6.out with ⟨h0,hkt2,hw,hr,hv⟩|⟨hno,hr,hv⟩
  ·subst h0
   have qi:Hid (∀w1,SlT w1 p b off n ts->_):=fun w1 hS1=>bE aV ts p b off cap n k5 En O5 w1 hS1
   rw[hw] at qi
   have qc:Hid (∀w1,SlT w1 p b off n ts->_):=fun w1 hS1=>ed (En:=En) (cap:=cap) (Sg.mk (k5+1) 0 O5) (by show k5+1<=_;omega) w1 hS1
   rw[<-hr,<-hv] at qc
   simp only at qc
   rw[show((k5+1:Nat):Int)=(k5:Int)+1 by omega] at qc
   have hk1:IntKind.i64.wrap ((k5:Int)+1)=(k5:Int)+1:=zbo
   clear hr hv hw
   obtain⟨c0,c1,c2,c3,c4,f0,f1,f2,f3,f4⟩:=F.out.A
   go_wp2_with fail
   refine(qi.out _ (HS.out.bel F.out.B)).mono ?_
   rintro _ v0 ⟨rfl,hb⟩
   replace F:=zH (F.out.bel hb)
   replace D:=zH (D.out.bel (Nat.succ_pos _) hb)
   clear hb qi c0 c1 c2 c3 c4 f0 f1 f2 f3 f4
   obtain⟨c0,c1,c2,c3,c4,f0,f1,f2,f3,f4⟩:=F.out.A
   go_wp2_with fail
   obtain⟨hF,hK⟩:=F.out.inc ((k5:Int)+1)
   replace F:=zH hF
   replace D:=zH (D.out.call (Nat.succ_pos _) hK zac)
   clear hF hK c0 c1 c2 c3 c4 f0 f1 f2 f3 f4
   generalize v0.setCell ⟨w.heap.size,1,none⟩ (zI zL ((k5:Int)+1))=V0 at *
   obtain⟨c0,c1,c2,c3,c4,f0,f1,f2,f3,f4⟩:=F.out.A
   refine(qc.out _ (HS.out.bel F.out.B)).mono ?_
   rintro _ v1 ⟨unv,rfl,hunv,hb⟩
   have Hunv:=zH hunv
   clear hunv
   replace F:=zH (F.out.bel hb)
   replace D:=zH (D.out.bel (Nat.succ_pos _) hb)
   clear hb c0 c1 c2 c3 c4 f0 f1 f2 f3 f4
   obtain⟨c0,c1,c2,c3,c4,f0,f1,f2,f3,f4⟩:=F.out.A
   obtain⟨dc5,df5⟩:=D.out 5 _ rfl
   go_wp2_with fail
   clear dc5 df5
   have hk:=((Kept.refl db v1).setCell 5 none (zI zL unv))
   replace F:=zH (F.out.kept hk zac)
   replace D:Hid (aH (v1.setCell ⟨db,5,none⟩ (zI zL unv)) db [.string nmv,zI zL vrv,zI zL kd,.string acv,zI zL frv,zI zL unv,zI zL 0,zI zL 17,zI zL at0,.string ⟨#[]⟩,zI zL 0,zI zL 0,.bool false,zI zL 0,zI zL 0,zI zL 0,.slice none 0 0,zI zL 1,zI zL at0,.string ⟨#[]⟩,zI zL 0,zI zL 1,.bool false,zI zL 0,zI zL 0,zI zL 0,.slice none 0 0,zI zL at0]):=(D.out.set 5 (zI zL unv))
   clear hk
   obtain⟨hF,hK⟩:=F.out.put (k6:Nat) E6 O6
   exact zz92
  ·simp only[Sg.mk.injEq] at hr
   obtain⟨hk2,hE2,hO2⟩:=hr
   replace hk2:=hk2.symm
   replace hE2:=hE2.symm
   replace hO2:=hO2.symm
   subst hk2 hE2 hO2
   have qi:Hid (∀w1,SlT w1 p b off n ts->_):=fun w1 hS1=>iY (cap:=cap) (En:=En) aV (Sg.mk k5 E5 O5) hno w1 hS1
   simp only at qi
   have HV:=zH hv
   clear hno hv
   obtain⟨c0,c1,c2,c3,c4,f0,f1,f2,f3,f4⟩:=F.out.A
   go_wp2_with fail
   refine(qi.out _ (HS.out.bel F.out.B)).mono ?_
   rintro _ v0 ⟨rfl,hb⟩
   replace F:=zH (F.out.bel hb)
   replace D:=zH (D.out.bel (Nat.succ_pos _) hb)
   clear hb qi c0 c1 c2 c3 c4 f0 f1 f2 f3 f4
   go_wp2_with fail
   have Hunv:Hid (∀u,t6=some u->(36525:Int)=u):=by
    intro u hu
    rw[HV.out] at hu
    split at hu
    ·cases hu;rfl
    ·cases hu
   refine Handed.intro 0 zah (HJ.out 0 _ _ ?_)
   rw[HK0.out]
   exact⟨db,nmv,vrv,acv,frv,36525,zbc,hdb,D.out.lt (Nat.succ_pos _),F,D,Hnmv,Hvrv,Hacv,Hfrv,Hunv⟩
 rw[HK0.out]
 clear HK0
 rintro a v ⟨db,nmv,vrv,acv,frv,unv,ha,hdb,hdv,F,D,Hnmv,Hvrv,Hacv,Hfrv,Hunv⟩
 cases ha
 obtain⟨K0,hK0⟩:∃K0:Act->World->Prop,K0=(fun a V=>∃(db:Nat) (nmv:ByteArray) (vrv:Int) (acv:ByteArray) (frv:Int) (unv:Int),IsActR w.heap.size db at0 a/\w.heap.size+2<db/\db<V.heap.size/\Hid (FrL w V p n cap (k7:Nat) En E7 O7 [.string ⟨#[]⟩,zI zL 0,zI zL 0,.string ⟨#[]⟩,zI zL 0,zI zL 0,zI zL 0,zI zL 0,zI zL 0,.string ⟨#[]⟩,zI zL 0,zI zL 0,.bool false,zI zL 0,zI zL 0,zI zL 0,.slice none 0 0,zI zL 0,zI zL 0,.string ⟨#[]⟩,zI zL 0,zI zL 0,.bool false,zI zL 0,zI zL 0,zI zL 0,.slice none 0 0,zI zL 0])/\Hid (aH V db [.string nmv,zI zL vrv,zI zL kd,.string acv,zI zL frv,zI zL unv,zI zL 0,zI zL 17,zI zL at0,.string ⟨#[]⟩,zI zL 0,zI zL 0,.bool false,zI zL 0,zI zL 0,zI zL 0,.slice none 0 0,zI zL 1,zI zL at0,.string ⟨#[]⟩,zI zL 0,zI zL 1,.bool false,zI zL 0,zI zL 0,zI zL 0,.slice none 0 0,zI zL at0])/\Hid (∀u,t1=some u->nmv=bs u)/\Hid (∀u,t2=some u->vrv=u)/\Hid (∀u,t3=some u->acv=bs u)/\Hid (∀u,t5=some u->frv=u)/\Hid (∀u,t6=some u->unv=u)):=⟨_,rfl⟩
 have HK0:=zH hK0
 clear hK0
 refine az K0 ?_ ?_
 rotate_left
 ·intro J K hJ hK
  have HJ:=zH hJ
  clear hJ
  obtain⟨c0,c1,c2,c3,c4,f0,f1,f2,f3,f4⟩:=F.out.A
  go_wp2_with fail
  refine(q7.out _ (HS.out.bel F.out.B)).mono ?_
  rintro _ v1 ⟨rfl,hb⟩
  replace F:=zH (F.out.bel hb)
  replace D:=zH (D.out.bel (Nat.succ_pos _) hb)
  clear hb c0 c1 c2 c3 c4 f0 f1 f2 f3 f4
  obtain⟨c0,c1,c2,c3,c4,f0,f1,f2,f3,f4⟩:=F.out.A
  go_wp2_with fail
  obtain⟨hF,hK⟩:=F.out.put (k7:Nat) E7 O7
  exact zz92
 rw[HK0.out]
 clear HK0
 rintro a v ⟨db,nmv,vrv,acv,frv,unv,ha,hdb,hdv,F,D,Hnmv,Hvrv,Hacv,Hfrv,Hunv⟩
 cases ha
 obtain⟨K0,hK0⟩:∃K0:Act->World->Prop,K0=(fun a V=>∃(db:Nat) (nmv:ByteArray) (vrv:Int) (acv:ByteArray) (frv:Int) (unv:Int) (knv:Int),IsActR w.heap.size db at0 a/\w.heap.size+2<db/\db<V.heap.size/\Hid (FrL w V p n cap (k8:Nat) En E8 O8 [.string ⟨#[]⟩,zI zL 0,zI zL 0,.string ⟨#[]⟩,zI zL 0,zI zL 0,zI zL 0,zI zL 0,zI zL 0,.string ⟨#[]⟩,zI zL 0,zI zL 0,.bool false,zI zL 0,zI zL 0,zI zL 0,.slice none 0 0,zI zL 0,zI zL 0,.string ⟨#[]⟩,zI zL 0,zI zL 0,.bool false,zI zL 0,zI zL 0,zI zL 0,.slice none 0 0,zI zL 0])/\Hid (aH V db [.string nmv,zI zL vrv,zI zL kd,.string acv,zI zL frv,zI zL unv,zI zL knv,zI zL 17,zI zL at0,.string ⟨#[]⟩,zI zL 0,zI zL 0,.bool false,zI zL 0,zI zL 0,zI zL 0,.slice none 0 0,zI zL 1,zI zL at0,.string ⟨#[]⟩,zI zL 0,zI zL 1,.bool false,zI zL 0,zI zL 0,zI zL 0,.slice none 0 0,zI zL at0])/\Hid (∀u,t1=some u->nmv=bs u)/\Hid (∀u,t2=some u->vrv=u)/\Hid (∀u,t3=some u->acv=bs u)/\Hid (∀u,t5=some u->frv=u)/\Hid (∀u,t6=some u->unv=u)/\Hid (∀u,t8=some u->knv=u)):=⟨_,rfl⟩
 have HK0:=zH hK0
 clear hK0
 refine az K0 ?_ ?_
 rotate_left
 ·intro J K hJ hK
  have HJ:=zH hJ
  clear hJ
  obtain⟨c0,c1,c2,c3,c4,f0,f1,f2,f3,f4⟩:=F.out.A
  go_wp2_with fail
  refine(q8.out _ (HS.out.bel F.out.B)).mono ?_
  rintro _ v1 ⟨knv,rfl,hknv,hb⟩
  have Hknv:=zH hknv
  clear hknv
  replace F:=zH (F.out.bel hb)
  replace D:=zH (D.out.bel (Nat.succ_pos _) hb)
  clear hb c0 c1 c2 c3 c4 f0 f1 f2 f3 f4
  obtain⟨c0,c1,c2,c3,c4,f0,f1,f2,f3,f4⟩:=F.out.A
  obtain⟨dc6,df6⟩:=D.out 6 _ rfl
  go_wp2_with fail
  clear dc6 df6
  have hk:=((Kept.refl db v1).setCell 6 none (zI zL knv))
  replace F:=zH (F.out.kept hk zac)
  replace D:Hid (aH (v1.setCell ⟨db,6,none⟩ (zI zL knv)) db [.string nmv,zI zL vrv,zI zL kd,.string acv,zI zL frv,zI zL unv,zI zL knv,zI zL 17,zI zL at0,.string ⟨#[]⟩,zI zL 0,zI zL 0,.bool false,zI zL 0,zI zL 0,zI zL 0,.slice none 0 0,zI zL 1,zI zL at0,.string ⟨#[]⟩,zI zL 0,zI zL 1,.bool false,zI zL 0,zI zL 0,zI zL 0,.slice none 0 0,zI zL at0]):=(D.out.set 6 (zI zL knv))
  clear hk
  obtain⟨hF,hK⟩:=F.out.put (k8:Nat) E8 O8
  replace F:=zH hF
  replace D:=zH (D.out.call (Nat.succ_pos _) hK zac)
  clear hF hK c0 c1 c2 c3 c4 f0 f1 f2 f3 f4
  refine Handed.intro 0 zah (HJ.out 0 _ _ ?_)
  rw[HK0.out]
  exact⟨db,nmv,vrv,acv,frv,unv,knv,zbc,hdb,D.out.lt (Nat.succ_pos _),F,D,Hnmv,Hvrv,Hacv,Hfrv,Hunv,Hknv⟩
 rw[HK0.out]
 clear HK0
 rintro a v ⟨db,nmv,vrv,acv,frv,unv,knv,ha,hdb,hdv,F,D,Hnmv,Hvrv,Hacv,Hfrv,Hunv,Hknv⟩
 cases ha
 obtain⟨K0,hK0⟩:∃K0:Act->World->Prop,K0=(fun a V=>∃(db:Nat) (nmv:ByteArray) (vrv:Int) (acv:ByteArray) (frv:Int) (unv:Int) (knv:Int) (x:NV),IsActR w.heap.size db at0 a/\w.heap.size+2<db/\db<V.heap.size/\Hid (FrL w V p n cap (k9:Nat) En E9 O9 [.string ⟨#[]⟩,zI zL 0,zI zL 0,.string ⟨#[]⟩,zI zL 0,zI zL 0,zI zL 0,zI zL 0,zI zL 0,.string ⟨#[]⟩,zI zL 0,zI zL 0,.bool false,zI zL 0,zI zL 0,zI zL 0,.slice none 0 0,zI zL 0,zI zL 0,.string ⟨#[]⟩,zI zL 0,zI zL 0,.bool false,zI zL 0,zI zL 0,zI zL 0,.slice none 0 0,zI zL 0])/\Hid (aH V db [.string nmv,zI zL vrv,zI zL kd,.string acv,zI zL frv,zI zL unv,zI zL knv,zI zL x.o,zI zL x.a,.string x.s,zI zL x.n,zI zL x.d,.bool x.f,zI zL x.m,zI zL x.r,zI zL x.y,.slice x.q x.k x.c,zI zL 1,zI zL at0,.string ⟨#[]⟩,zI zL 0,zI zL 1,.bool false,zI zL 0,zI zL 0,zI zL 0,.slice none 0 0,zI zL at0])/\Hid (∀u,t1=some u->nmv=bs u)/\Hid (∀u,t2=some u->vrv=u)/\Hid (∀u,t3=some u->acv=bs u)/\Hid (∀u,t5=some u->frv=u)/\Hid (∀u,t6=some u->unv=u)/\Hid (∀u,t8=some u->knv=u)/\Hid (∀u,t9=some u->NodeA V (fun j=>db<j) (ag ts En) u x)):=⟨_,rfl⟩
 have HK0:=zH hK0
 clear hK0
 refine az K0 ?_ ?_
 rotate_left
 ·intro J K hJ hK
  have HJ:=zH hJ
  clear hJ
  rcases H9.out with ⟨h0,hkt2,hw,hr,hv⟩|⟨hno,hr,hv⟩
  ·subst h0
   have qi:Hid (∀w1,SlT w1 p b off n ts->_):=fun w1 hS1=>bE bD ts p b off cap n k8 En O8 w1 hS1
   rw[hw] at qi
   have qc:Hid (∀w1,SlT w1 p b off n ts->_):=fun w1 hS1=>qx (En:=En) (cap:=cap) hT (Sg.mk (k8+1) 0 O8) (by show k8+1<=_;omega) w1 hS1
   rw[<-hr,<-hv] at qc
   simp only at qc
   rw[show((k8+1:Nat):Int)=(k8:Int)+1 by omega] at qc
   have hk1:IntKind.i64.wrap ((k8:Int)+1)=(k8:Int)+1:=zbo
   clear hr hv hw
   obtain⟨c0,c1,c2,c3,c4,f0,f1,f2,f3,f4⟩:=F.out.A
   go_wp2_with fail
   refine(qi.out _ (HS.out.bel F.out.B)).mono ?_
   rintro _ v0 ⟨rfl,hb⟩
   replace F:=zH (F.out.bel hb)
   replace D:=zH (D.out.bel (Nat.succ_pos _) hb)
   clear hb qi c0 c1 c2 c3 c4 f0 f1 f2 f3 f4
   obtain⟨c0,c1,c2,c3,c4,f0,f1,f2,f3,f4⟩:=F.out.A
   go_wp2_with fail
   obtain⟨hF,hK⟩:=F.out.inc ((k8:Int)+1)
   replace F:=zH hF
   replace D:=zH (D.out.call (Nat.succ_pos _) hK zac)
   clear hF hK c0 c1 c2 c3 c4 f0 f1 f2 f3 f4
   generalize v0.setCell ⟨w.heap.size,1,none⟩ (zI zL ((k8:Int)+1))=V0 at *
   obtain⟨c0,c1,c2,c3,c4,f0,f1,f2,f3,f4⟩:=F.out.A
   refine(qc.out _ (HS.out.bel F.out.B)).mono ?_
   rintro _ v1 ⟨x,rfl,hx,hb⟩
   have NX:Hid (∀u,t9=some u->NodeA v1 (fun j=>db<j) (ag ts En) u x):=fun u hu=>NodeA.keep (Nat.le_refl _) (fun _ _ _=>rfl) (fun j (hj:_<=j) _=>(by have h4:=D.out.lt (Nat.succ_pos _);show db<j;omega)) _ _ (hx u hu)
   clear hx
   replace F:=zH (F.out.bel hb)
   replace D:=zH (D.out.bel (Nat.succ_pos _) hb)
   clear hb c0 c1 c2 c3 c4 f0 f1 f2 f3 f4
   obtain⟨c0,c1,c2,c3,c4,f0,f1,f2,f3,f4⟩:=F.out.A
   obtain⟨dc7,df7⟩:=D.out 7 _ rfl
   obtain⟨dc8,df8⟩:=D.out 8 _ rfl
   obtain⟨dc9,df9⟩:=D.out 9 _ rfl
   obtain⟨dc10,df10⟩:=D.out 10 _ rfl
   obtain⟨dc11,df11⟩:=D.out 11 _ rfl
   obtain⟨dc12,df12⟩:=D.out 12 _ rfl
   obtain⟨dc13,df13⟩:=D.out 13 _ rfl
   obtain⟨dc14,df14⟩:=D.out 14 _ rfl
   obtain⟨dc15,df15⟩:=D.out 15 _ rfl
   obtain⟨dc16,df16⟩:=D.out 16 _ rfl
   go_wp2_with fail
   clear dc7 df7 dc8 df8 dc9 df9 dc10 df10 dc11 df11 dc12 df12 dc13 df13 dc14 df14 dc15 df15 dc16 df16
   have hk:=(((((((((((Kept.refl db v1).setCell 7 none (zI zL x.o)).setCell 8 none (zI zL x.a)).setCell 9 none (.string x.s)).setCell 10 none (zI zL x.n)).setCell 11 none (zI zL x.d)).setCell 12 none (.bool x.f)).setCell 13 none (zI zL x.m)).setCell 14 none (zI zL x.r)).setCell 15 none (zI zL x.y)).setCell 16 none (.slice x.q x.k x.c))
   replace F:=zH (F.out.kept hk zac)
   replace D:Hid (aH ((((((((((v1.setCell ⟨db,7,none⟩ (zI zL x.o)).setCell ⟨db,8,none⟩ (zI zL x.a)).setCell ⟨db,9,none⟩ (.string x.s)).setCell ⟨db,10,none⟩ (zI zL x.n)).setCell ⟨db,11,none⟩ (zI zL x.d)).setCell ⟨db,12,none⟩ (.bool x.f)).setCell ⟨db,13,none⟩ (zI zL x.m)).setCell ⟨db,14,none⟩ (zI zL x.r)).setCell ⟨db,15,none⟩ (zI zL x.y)).setCell ⟨db,16,none⟩ (.slice x.q x.k x.c)) db [.string nmv,zI zL vrv,zI zL kd,.string acv,zI zL frv,zI zL unv,zI zL knv,zI zL x.o,zI zL x.a,.string x.s,zI zL x.n,zI zL x.d,.bool x.f,zI zL x.m,zI zL x.r,zI zL x.y,.slice x.q x.k x.c,zI zL 1,zI zL at0,.string ⟨#[]⟩,zI zL 0,zI zL 1,.bool false,zI zL 0,zI zL 0,zI zL 0,.slice none 0 0,zI zL at0]):=((((((((((D.out.set 7 (zI zL x.o)).set 8 (zI zL x.a)).set 9 (.string x.s)).set 10 (zI zL x.n)).set 11 (zI zL x.d)).set 12 (.bool x.f)).set 13 (zI zL x.m)).set 14 (zI zL x.r)).set 15 (zI zL x.y)).set 16 (.slice x.q x.k x.c))
   replace NX:=zH (fun u hu=>NodeA.keep hk.size (fun j (hj:db<j) hj2=>hk.block j hj2 zac) (fun j hj _=>hj) _ _ (NX.out u hu))
   clear hk
   obtain⟨hF,hK⟩:=F.out.put (k9:Nat) E9 O9
   replace F:=zH hF
   replace D:=zH (D.out.call (Nat.succ_pos _) hK zac)
   replace NX:=zH (fun u hu=>NodeA.keep hK.size (fun j (hj:db<j) hj2=>hK.block j hj2 zac) (fun j hj _=>hj) _ _ (NX.out u hu))
   clear hF hK c0 c1 c2 c3 c4 f0 f1 f2 f3 f4
   refine Handed.intro 0 zah (HJ.out 0 _ _ ?_)
   rw[HK0.out]
   exact⟨db,nmv,vrv,acv,frv,unv,knv,x,zbc,hdb,D.out.lt (Nat.succ_pos _),F,D,Hnmv,Hvrv,Hacv,Hfrv,Hunv,Hknv,NX⟩
  ·simp only[Sg.mk.injEq] at hr
   obtain⟨hk2,hE2,hO2⟩:=hr
   replace hk2:=hk2.symm
   replace hE2:=hE2.symm
   replace hO2:=hO2.symm
   subst hk2 hE2 hO2
   have qi:Hid (∀w1,SlT w1 p b off n ts->_):=fun w1 hS1=>iY (cap:=cap) (En:=En) bD (Sg.mk k8 E8 O8) hno w1 hS1
   simp only at qi
   have HV:=zH hv
   clear hno hv
   obtain⟨c0,c1,c2,c3,c4,f0,f1,f2,f3,f4⟩:=F.out.A
   go_wp2_with fail
   refine(qi.out _ (HS.out.bel F.out.B)).mono ?_
   rintro _ v0 ⟨rfl,hb⟩
   replace F:=zH (F.out.bel hb)
   replace D:=zH (D.out.bel (Nat.succ_pos _) hb)
   clear hb qi c0 c1 c2 c3 c4 f0 f1 f2 f3 f4
   go_wp2_with fail
   have NX:Hid (∀u,t9=some u->NodeA v0 (fun j=>db<j) (ag ts En) u ⟨17,at0,⟨#[]⟩,0,0,false,0,0,0,none,0,0⟩):=by
    intro u hu
    rw[HV.out] at hu
    split at hu
    ·cases hu;rw[HAT.out,<-hl];exact oD _ _ _ _
    ·cases hu
   refine Handed.intro 0 zah (HJ.out 0 _ _ ?_)
   rw[HK0.out]
   exact⟨db,nmv,vrv,acv,frv,unv,knv,⟨17,at0,⟨#[]⟩,0,0,false,0,0,0,none,0,0⟩,zbc,hdb,D.out.lt (Nat.succ_pos _),F,D,Hnmv,Hvrv,Hacv,Hfrv,Hunv,Hknv,NX⟩
 rw[HK0.out]
 clear HK0
 rintro a v ⟨db,nmv,vrv,acv,frv,unv,knv,x,ha,hdb,hdv,F,D,Hnmv,Hvrv,Hacv,Hfrv,Hunv,Hknv,NX⟩
 cases ha
 obtain⟨K0,hK0⟩:∃K0:Act->World->Prop,K0=(fun a V=>∃(db:Nat) (nmv:ByteArray) (vrv:Int) (acv:ByteArray) (frv:Int) (unv:Int) (knv:Int) (x:NV) (y:NV),IsActR w.heap.size db at0 a/\w.heap.size+2<db/\db<V.heap.size/\Hid (FrL w V p n cap (k10:Nat) En E10 O10 [.string ⟨#[]⟩,zI zL 0,zI zL 0,.string ⟨#[]⟩,zI zL 0,zI zL 0,zI zL 0,zI zL 0,zI zL 0,.string ⟨#[]⟩,zI zL 0,zI zL 0,.bool false,zI zL 0,zI zL 0,zI zL 0,.slice none 0 0,zI zL 0,zI zL 0,.string ⟨#[]⟩,zI zL 0,zI zL 0,.bool false,zI zL 0,zI zL 0,zI zL 0,.slice none 0 0,zI zL 0])/\Hid (aH V db [.string nmv,zI zL vrv,zI zL kd,.string acv,zI zL frv,zI zL unv,zI zL knv,zI zL x.o,zI zL x.a,.string x.s,zI zL x.n,zI zL x.d,.bool x.f,zI zL x.m,zI zL x.r,zI zL x.y,.slice x.q x.k x.c,zI zL y.o,zI zL y.a,.string y.s,zI zL y.n,zI zL y.d,.bool y.f,zI zL y.m,zI zL y.r,zI zL y.y,.slice y.q y.k y.c,zI zL at0])/\Hid (∀u,t1=some u->nmv=bs u)/\Hid (∀u,t2=some u->vrv=u)/\Hid (∀u,t3=some u->acv=bs u)/\Hid (∀u,t5=some u->frv=u)/\Hid (∀u,t6=some u->unv=u)/\Hid (∀u,t8=some u->knv=u)/\Hid (∀u,t9=some u->NodeA V (fun j=>db<j) (ag ts En) u x)/\Hid (∀u,t10=some u->NodeA V (fun j=>db<j) (ag ts En) u y)):=⟨_,rfl⟩
 have HK0:=zH hK0
 clear hK0
 refine az K0 ?_ ?_
 rotate_left
 ·intro J K hJ hK
  have HJ:=zH hJ
  clear hJ
  rcases H10.out with ⟨h0,hkt2,hw,hr,hv⟩|⟨hno,hr,hv⟩
  ·subst h0
   have qi:Hid (∀w1,SlT w1 p b off n ts->_):=fun w1 hS1=>bE bi ts p b off cap n k9 En O9 w1 hS1
   rw[hw] at qi
   have qc:Hid (∀w1,SlT w1 p b off n ts->_):=fun w1 hS1=>qx (En:=En) (cap:=cap) hT (Sg.mk (k9+1) 0 O9) (by show k9+1<=_;omega) w1 hS1
   rw[<-hr,<-hv] at qc
   simp only at qc
   rw[show((k9+1:Nat):Int)=(k9:Int)+1 by omega] at qc
   have hk1:IntKind.i64.wrap ((k9:Int)+1)=(k9:Int)+1:=zbo
   clear hr hv hw
   obtain⟨c0,c1,c2,c3,c4,f0,f1,f2,f3,f4⟩:=F.out.A
   go_wp2_with fail
   refine(qi.out _ (HS.out.bel F.out.B)).mono ?_
   rintro _ v0 ⟨rfl,hb⟩
   replace F:=zH (F.out.bel hb)
   replace D:=zH (D.out.bel (Nat.succ_pos _) hb)
   replace NX:=zH (fun u hu=>NodeA.bel hb _ _ (NX.out u hu))
   clear hb qi c0 c1 c2 c3 c4 f0 f1 f2 f3 f4
   obtain⟨c0,c1,c2,c3,c4,f0,f1,f2,f3,f4⟩:=F.out.A
   go_wp2_with fail
   obtain⟨hF,hK⟩:=F.out.inc ((k9:Int)+1)
   replace F:=zH hF
   replace D:=zH (D.out.call (Nat.succ_pos _) hK zac)
   replace NX:=zH (fun u hu=>NodeA.keep hK.size (fun j (hj:db<j) hj2=>hK.block j hj2 zac) (fun j hj _=>hj) _ _ (NX.out u hu))
   clear hF hK c0 c1 c2 c3 c4 f0 f1 f2 f3 f4
   generalize v0.setCell ⟨w.heap.size,1,none⟩ (zI zL ((k9:Int)+1))=V0 at *
   obtain⟨c0,c1,c2,c3,c4,f0,f1,f2,f3,f4⟩:=F.out.A
   refine(qc.out _ (HS.out.bel F.out.B)).mono ?_
   rintro _ v1 ⟨y,rfl,hx,hb⟩
   have NY:Hid (∀u,t10=some u->NodeA v1 (fun j=>db<j) (ag ts En) u y):=fun u hu=>NodeA.keep (Nat.le_refl _) (fun _ _ _=>rfl) (fun j (hj:_<=j) _=>(by have h4:=D.out.lt (Nat.succ_pos _);show db<j;omega)) _ _ (hx u hu)
   clear hx
   replace F:=zH (F.out.bel hb)
   replace D:=zH (D.out.bel (Nat.succ_pos _) hb)
   replace NX:=zH (fun u hu=>NodeA.bel hb _ _ (NX.out u hu))
   clear hb c0 c1 c2 c3 c4 f0 f1 f2 f3 f4
   obtain⟨c0,c1,c2,c3,c4,f0,f1,f2,f3,f4⟩:=F.out.A
   obtain⟨dc17,df17⟩:=D.out 17 _ rfl
   obtain⟨dc18,df18⟩:=D.out 18 _ rfl
   obtain⟨dc19,df19⟩:=D.out 19 _ rfl
   obtain⟨dc20,df20⟩:=D.out 20 _ rfl
   obtain⟨dc21,df21⟩:=D.out 21 _ rfl
   obtain⟨dc22,df22⟩:=D.out 22 _ rfl
   obtain⟨dc23,df23⟩:=D.out 23 _ rfl
   obtain⟨dc24,df24⟩:=D.out 24 _ rfl
   obtain⟨dc25,df25⟩:=D.out 25 _ rfl
   obtain⟨dc26,df26⟩:=D.out 26 _ rfl
   go_wp2_with fail
   clear dc17 df17 dc18 df18 dc19 df19 dc20 df20 dc21 df21 dc22 df22 dc23 df23 dc24 df24 dc25 df25 dc26 df26
   have hk:=(((((((((((Kept.refl db v1).setCell 17 none (zI zL y.o)).setCell 18 none (zI zL y.a)).setCell 19 none (.string y.s)).setCell 20 none (zI zL y.n)).setCell 21 none (zI zL y.d)).setCell 22 none (.bool y.f)).setCell 23 none (zI zL y.m)).setCell 24 none (zI zL y.r)).setCell 25 none (zI zL y.y)).setCell 26 none (.slice y.q y.k y.c))
   replace F:=zH (F.out.kept hk zac)
   replace D:Hid (aH ((((((((((v1.setCell ⟨db,17,none⟩ (zI zL y.o)).setCell ⟨db,18,none⟩ (zI zL y.a)).setCell ⟨db,19,none⟩ (.string y.s)).setCell ⟨db,20,none⟩ (zI zL y.n)).setCell ⟨db,21,none⟩ (zI zL y.d)).setCell ⟨db,22,none⟩ (.bool y.f)).setCell ⟨db,23,none⟩ (zI zL y.m)).setCell ⟨db,24,none⟩ (zI zL y.r)).setCell ⟨db,25,none⟩ (zI zL y.y)).setCell ⟨db,26,none⟩ (.slice y.q y.k y.c)) db [.string nmv,zI zL vrv,zI zL kd,.string acv,zI zL frv,zI zL unv,zI zL knv,zI zL x.o,zI zL x.a,.string x.s,zI zL x.n,zI zL x.d,.bool x.f,zI zL x.m,zI zL x.r,zI zL x.y,.slice x.q x.k x.c,zI zL y.o,zI zL y.a,.string y.s,zI zL y.n,zI zL y.d,.bool y.f,zI zL y.m,zI zL y.r,zI zL y.y,.slice y.q y.k y.c,zI zL at0]):=((((((((((D.out.set 17 (zI zL y.o)).set 18 (zI zL y.a)).set 19 (.string y.s)).set 20 (zI zL y.n)).set 21 (zI zL y.d)).set 22 (.bool y.f)).set 23 (zI zL y.m)).set 24 (zI zL y.r)).set 25 (zI zL y.y)).set 26 (.slice y.q y.k y.c))
   replace NX:=zH (fun u hu=>NodeA.keep hk.size (fun j (hj:db<j) hj2=>hk.block j hj2 zac) (fun j hj _=>hj) _ _ (NX.out u hu))
   replace NY:=zH (fun u hu=>NodeA.keep hk.size (fun j (hj:db<j) hj2=>hk.block j hj2 zac) (fun j hj _=>hj) _ _ (NY.out u hu))
   clear hk
   obtain⟨hF,hK⟩:=F.out.put (k10:Nat) E10 O10
   replace F:=zH hF
   replace D:=zH (D.out.call (Nat.succ_pos _) hK zac)
   replace NX:=zH (fun u hu=>NodeA.keep hK.size (fun j (hj:db<j) hj2=>hK.block j hj2 zac) (fun j hj _=>hj) _ _ (NX.out u hu))
   replace NY:=zH (fun u hu=>NodeA.keep hK.size (fun j (hj:db<j) hj2=>hK.block j hj2 zac) (fun j hj _=>hj) _ _ (NY.out u hu))
   clear hF hK c0 c1 c2 c3 c4 f0 f1 f2 f3 f4
   refine Handed.intro 0 zah (HJ.out 0 _ _ ?_)
   rw[HK0.out]
   exact⟨db,nmv,vrv,acv,frv,unv,knv,x,y,zbc,hdb,D.out.lt (Nat.succ_pos _),F,D,Hnmv,Hvrv,Hacv,Hfrv,Hunv,Hknv,NX,NY⟩
  ·simp only[Sg.mk.injEq] at hr
   obtain⟨hk2,hE2,hO2⟩:=hr
   replace hk2:=hk2.symm
   replace hE2:=hE2.symm
   replace hO2:=hO2.symm
   subst hk2 hE2 hO2
   have qi:Hid (∀w1,SlT w1 p b off n ts->_):=fun w1 hS1=>iY (cap:=cap) (En:=En) bi (Sg.mk k9 E9 O9) hno w1 hS1
   simp only at qi
   have HV:=zH hv
   clear hno hv
   obtain⟨c0,c1,c2,c3,c4,f0,f1,f2,f3,f4⟩:=F.out.A
   go_wp2_with fail
   refine(qi.out _ (HS.out.bel F.out.B)).mono ?_
   rintro _ v0 ⟨rfl,hb⟩
   replace F:=zH (F.out.bel hb)
   replace D:=zH (D.out.bel (Nat.succ_pos _) hb)
   replace NX:=zH (fun u hu=>NodeA.bel hb _ _ (NX.out u hu))
   clear hb qi c0 c1 c2 c3 c4 f0 f1 f2 f3 f4
   go_wp2_with fail
   have NY:Hid (∀u,t10=some u->NodeA v0 (fun j=>db<j) (ag ts En) u ⟨1,at0,⟨#[]⟩,0,1,false,0,0,0,none,0,0⟩):=by
    intro u hu
    rw[HV.out] at hu
    split at hu
    ·cases hu;rw[HAT.out,<-hl];exact oz _ _ _ _
    ·cases hu
   refine Handed.intro 0 zah (HJ.out 0 _ _ ?_)
   rw[HK0.out]
   exact⟨db,nmv,vrv,acv,frv,unv,knv,x,⟨1,at0,⟨#[]⟩,0,1,false,0,0,0,none,0,0⟩,zbc,hdb,D.out.lt (Nat.succ_pos _),F,D,Hnmv,Hvrv,Hacv,Hfrv,Hunv,Hknv,NX,NY⟩
 rw[HK0.out]
 clear HK0
 rintro a v ⟨db,nmv,vrv,acv,frv,unv,knv,x,y,ha,hdb,hdv,F,D,Hnmv,Hvrv,Hacv,Hfrv,Hunv,Hknv,NX,NY⟩
 cases ha
 obtain⟨LL,hLL⟩:∃LL:List Value,LL=[.string nmv,zI zL vrv,zI zL kd,.string acv,zI zL frv,zI zL unv,zI zL knv,zI zL x.o,zI zL x.a,.string x.s,zI zL x.n,zI zL x.d,.bool x.f,zI zL x.m,zI zL x.r,zI zL x.y,.slice x.q x.k x.c,zI zL y.o,zI zL y.a,.string y.s,zI zL y.n,zI zL y.d,.bool y.f,zI zL y.m,zI zL y.r,zI zL y.y,.slice y.q y.k y.c,zI zL at0]:=⟨_,rfl⟩
 have hLn:LL.length=28:=by rw[hLL];rfl
 have hL1:∀u∈LL,u.oneCell'=true:=by rw[hLL];simp[Value.oneCell']
 have D2:Hid (aH v db LL):=by show aH _ _ _;rw[hLL];exact D.out
 have HLL:=zH hLL
 clear D hLL
 go_wp2_with fail
 have hb:=(Below.refl v.heap.size v).drew
 have hS:Hid (aH v.drew db LL/\B5 v.drew w.heap.size (.slice p n cap) (zI zL (k10:Nat)) (zI zL En) (zI zL E10) (zI zL O10)):=⟨D2.out.bel zac hb,F.out.A.bel hb⟩
 refine wp_region_held (S:=fun w':World=>Hid (aH w' db LL/\B5 w' w.heap.size (.slice p n cap) (zI zL (k10:Nat)) (zI zL En) (zI zL E10) (zI zL O10))) mixed ?_
 change wpAnyH _ _ _ _ _ _ _ _ v.drew
 replace F:=zH (F.out.bel hb)
 replace D2:=zH (D2.out.bel zac hb)
 replace NX:=zH (fun u hu=>NodeA.bel hb _ _ (NX.out u hu))
 replace NY:=zH (fun u hu=>NodeA.bel hb _ _ (NY.out u hu))
 clear hb
 generalize v.drew=U2 at *
 refine tk0 (v:= .agg LL.toArray) zab zab zab (fun _ _ _ h=>h) (Or.inl ⟨by rfl,?_⟩) hS ?_
 ·intro w' hSw
  exact aY rfl rfl (aS _ 28 zab zab w' db _ hLn (fun j u hu=>(hSw.out.1 j u hu).1))
 simp only[Act.put,zA,zB,zC]
 refine tk1 (v:= .agg #[.slice p n cap,zI zL (k10:Nat),zI zL En,zI zL E10,zI zL O10]) zab zab zab (fun _ _ _ h=>h) (Or.inl ⟨by rfl,?_⟩) hS ?_
 ·exact EM
 simp only[Act.put,zA,zB,zC]
 refine wpAnyH_ready (rs:=[2]) zab (by simp) (st2 (fun K hK=>?_) AllReadyH.nil)
 go_simp
 refine(q11.out _ (HS.out.bel F.out.B)).mono ?_
 rintro _ v1 ⟨rfl,hb⟩
 go_wp2_with fail
 replace F:=zH (F.out.bel hb)
 replace D2:=zH (D2.out.bel zac hb)
 replace NX:=zH (fun u hu=>NodeA.bel hb _ _ (NX.out u hu))
 replace NY:=zH (fun u hu=>NodeA.bel hb _ _ (NY.out u hu))
 clear hb
 replace hS:Hid (aH v1 db LL/\B5 v1 w.heap.size (.slice p n cap) (zI zL (k10:Nat)) (zI zL En) (zI zL E10) (zI zL O10)):=⟨D2.out,F.out.A⟩
 refine hK.out _ _ ?_ (fun hHeld=>?_)
 ·exact hS
 clear hK K
 try simp only[Act.put,zA,zB,zC]
 refine wpAnyH_ready (rs:=[3]) zab (by simp) (st3 (fun K hK=>?_) AllReadyH.nil)
 refine(if_pos zab).mpr ?_
 refine gz rfl rfl rfl (dz 49 28 zab v1 (w.heap.size+1) [.string ⟨#[]⟩,zI zL 0,zI zL 0,.string ⟨#[]⟩,zI zL 0,zI zL 0,zI zL 0,zI zL 0,zI zL 0,.string ⟨#[]⟩,zI zL 0,zI zL 0,.bool false,zI zL 0,zI zL 0,zI zL 0,.slice none 0 0,zI zL 0,zI zL 0,.string ⟨#[]⟩,zI zL 0,zI zL 0,.bool false,zI zL 0,zI zL 0,zI zL 0,.slice none 0 0,zI zL 0] LL F.out.N rfl hLn hL1) ?_
 have hk:=aT (b:=w.heap.size+1) (w:=v1) LL 0 v1 (Kept.refl _ _)
 replace F:=zH (F.out.cellsN (L:=LL) (by rw[hLn];rfl))
 replace D2:=zH (D2.out.call zac hk zac)
 replace NX:=zH (fun u hu=>NodeA.keep hk.size (fun j (hj:db<j) hj2=>hk.block j hj2 zac) (fun j hj _=>hj) _ _ (NX.out u hu))
 replace NY:=zH (fun u hu=>NodeA.keep hk.size (fun j (hj:db<j) hj2=>hk.block j hj2 zac) (fun j hj _=>hj) _ _ (NY.out u hu))
 clear hk
 generalize v1.setCells (w.heap.size+1) 0 LL=V1 at *
 replace hS:Hid (aH V1 db LL/\B5 V1 w.heap.size (.slice p n cap) (zI zL (k10:Nat)) (zI zL En) (zI zL E10) (zI zL O10)):=⟨D2.out,F.out.A⟩
 refine hK.out _ _ ?_ (fun hHeld=>?_)
 ·exact hS
 clear hK K
 simp only[Act.put]
 obtain⟨e0,e1,e2,e3,e4,g0,g1,g2,g3,g4⟩:=F.out.R
 refine wpAnyH_ready (rs:=[4]) zab (by simp) (st4 (fun K hK=>?_) AllReadyH.nil)
 go_simp
 have hk:=Kept.set5 (Kept.refl (w.heap.size+2) V1) (.slice p n cap) (zI zL (k11:Nat)) (zI zL En) (zI zL E11) (zI zL O11)
 have HN:=zH (F.out.N.call F.out.L hk zac)
 have HR:=zH (F.out.R.put (.slice p n cap) (zI zL (k11:Nat)) (zI zL En) (zI zL E11) (zI zL O11))
 have BV:=zH (F.out.B.trans (hk.below (B:=w.heap.size) zac F.out.B.size))
 have hS0:=hS
 replace hS:Hid (aH _ db LL/\B5 _ w.heap.size (.slice p n cap) (zI zL (k10:Nat)) (zI zL En) (zI zL E10) (zI zL O10)):=⟨hS0.out.1.call zac hk zac,hS0.out.2.kept hk zac⟩
 have NX2:=zH (fun u hu=>NodeA.keep (A':=fun j=>w.heap.size<=j) hk.size (fun j (hj:db<j) hj2=>hk.block j hj2 zac) (fun j (hj:db<j) _=> zac) _ _ (NX.out u hu))
 have NY2:=zH (fun u hu=>NodeA.keep (A':=fun j=>w.heap.size<=j) hk.size (fun j (hj:db<j) hj2=>hk.block j hj2 zac) (fun j (hj:db<j) _=> zac) _ _ (NY.out u hu))
 clear hk hS0
 refine hK.out _ _ ?_ (fun hHeld=>?_)
 ·exact hS
 clear hK K
 try simp only[Act.put,zA,zB,zC]
 refine wpAnyH_done zab ?_ _
 clear hS
 go_wp2_with fail
 refine bodyPost_ret (ig (l:=LL) (m:=[.slice p n cap,zI zL (k11:Nat),zI zL En,zI zL E11,zI zL O11]) rfl rfl rfl Tryz.underlying49 rfl (by rw[hLn];kernel_rfl) HN.out.range Tryz.underlying62 rfl zab HR.out.range) rfl ⟨LL,hLn,hL1,rfl,fun d hd=>?_,BV.out⟩
 obtain⟨-,nm,vr,act,fr,un,kn,wh,gi,a1,a2,a3,a4,a5,a6,a7,a8,rfl⟩:=HD.out d hd
 refine⟨x,y,?_,NX2.out _ a7,NY2.out _ a8⟩
 rw[HLL.out,Hnmv.out nm a1,Hvrv.out vr a2,Hacv.out act a3,Hfrv.out fr a4,Hunv.out un a5,Hknv.out kn a6,HAT.out,HKDv.out,<-hl]
 rfl
theorem j4 {ts:List Tok}{p:Option Addr}{b off cap n En:Nat}(hT:eQ ts)(σ:Sg)(hk:σ.k<=n)(w:World)(hS:SlT w p b off n ts):Calls Tryz.prog 22 #[.agg #[.slice p n cap,zI zL (σ.k:Nat),zI zL En,zI zL σ.E,zI zL σ.O]] w fun e w'=>Bi w p n cap ((σ.run ts En dE).k:Nat) En (σ.run ts En dE).E (σ.run ts En dE).O (ag ts En) (σ.val ts dE) e w':=by
 rcases uK (En:=En) (ts:=ts) σ (by have:=hS.ln;omega) with ⟨u,hu7,h0,hkt,hw,hr,hv⟩|⟨hno,-,-⟩
 ·rw[hr,hv]
  exact ug hT σ hk u hu7 hw h0 hkt w hS
 ·exact yP σ hk hno w hS
end Go.Proofs.YtnjfolljbfkojaaGreatDoor
