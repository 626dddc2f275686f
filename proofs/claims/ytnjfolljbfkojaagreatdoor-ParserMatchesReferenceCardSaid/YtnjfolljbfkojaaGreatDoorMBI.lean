import Derived.Test.YtnjfolljbfkojaaGreatDoorMAL
import Derived.Test.YtnjfolljbfkojaaGreatDoorMBF
set_option maxRecDepth 100000
set_option maxHeartbeats 20000000
namespace Go.Proofs.YtnjfolljbfkojaaGreatDoor
open Go.Value renaming int→zI
open Go.IntKind renaming i64→zL
open Go.Lib renaming hid→zH
open Go.RowKit Lx Pa
theorem az {P:Program}{c d:Code}{Q:Exit->Act->World->Prop}{a:Act}{w:World}(J0:Act->World->Prop)(hK:∀a w,J0 a w->d.wp P Q a w)
  (h:∀(J:Nat->Act->World->Prop) (K:Act->World->Prop),(∀k a w,J0 a w->J k a w)->(∀a w,Handed J 1 a w->K a w)->c.wp P (Exit.then K Q) a w):(c.seq d).wp P Q a w:=by
 refine wp_seq ?_
 refine Code.wp_mono (fun e a w h=>?_) (h (fun _=>J0) (fun a w=>Handed (fun _=>J0) 1 a w) (fun _ _ _ h=>h) (fun _ _ h=>h))
 cases e with
 | normal=>obtain⟨n,-,h⟩:=h;exact hK _ _ h
 | exit id=>exact h
 | goto l=>exact h
 | ret=>exact h
 | panic ch=>exact h
 | outgrown=>exact h
theorem oD (w:World)(A:Nat->Prop)(ofs:Nat->Int)(pl:Nat):NodeA w A ofs (aN pl) ⟨17,ofs pl,⟨#[]⟩,0,0,false,0,0,0,none,0,0⟩:=by
 unfold aN NodeA
 exact Eb
theorem oz (w:World)(A:Nat->Prop)(ofs:Nat->Int)(pl:Nat):NodeA w A ofs (aK pl) ⟨1,ofs pl,⟨#[]⟩,0,1,false,0,0,0,none,0,0⟩:=by
 unfold aK NodeA
 exact Eb
inductive IsAct (b cb bq:Nat) (at0 kd:Int):Act->Prop where
 | mk (u4 u5 u6 u7 u9 u10 u11 u12 u13 u14 u15 u16 u17 u18 u19 u20 u21 u22 u23 u24 u25 u26 u27 u28 u29 u30 u31 u32 u33 u34 u35 u36 u37 u38 u39 u40 u41 u42 u43 u44 u45 u46 u47 u48 u49 u50 u51 u52 u53 u54 u55 u56 u57 u58 u59 u60 u61 u62 u63 u64 u65 u66 u67 u68 u69 u70 u71 u72 u73:Value):IsAct b cb bq at0 kd { tmps:=#[.pointer (some ⟨b,0,none⟩),.pointer (some ⟨cb,0,none⟩),zI zL at0,zI zL kd,u4,u5,u6,u7,.pointer (some ⟨bq,0,none⟩),u9,u10,u11,u12,u13,u14,u15,u16,u17,u18,u19,u20,u21,u22,u23,u24,u25,u26,u27,u28,u29,u30,u31,u32,u33,u34,u35,u36,u37,u38,u39,u40,u41,u42,u43,u44,u45,u46,u47,u48,u49,u50,u51,u52,u53,u54,u55,u56,u57,u58,u59,u60,u61,u62,u63,u64,u65,u66,u67,u68,u69,u70,u71,u72,u73],defers:=[] }
section
variable {b cap qb En mb base cb gx:Nat} {p:Option Addr} {ts:List Tok} {ds:List Decl} {rs:List Rule} {vd vr:Value} {ns:List (NV×NV)}
theorem yL (full:Bool)(pl k kdn:Nat)(w:World)(h:Rd w b p cap qb ts En mb k)(hC:Cx w base cb gx (ag ts En) ds rs vd vr ns)(hfl:((rs.length:Int)==100)=full)(hbb:b<base/\b≠cb/\mb<base/\mb≠cb/\(0<ts.length->qb<base/\qb≠cb)/\base<=w.heap.size)(hgx:gx<w.heap.size)(hdl:rs.length<=1000) :
  Calls Tryz.prog 58 #[.pointer (some ⟨b,0,none⟩),.pointer (some ⟨cb,0,none⟩),zI zL (ag ts En pl),zI zL (kdn:Nat)] w fun e w'=>dW w b p cap qb ts En mb base cb gx vd vr (wI ds) (wo rs) ((uL full pl kdn (ts.drop k)).bind fun d r=> .ok (Pa.Item.rule d) r) e w':=by
 have hbl:b<w.heap.size:=h.lt
 have hcl:=hC.at2.lt
 have hcb:=hC.lt
 obtain⟨q,rc,rfl⟩:=aF hC.rr
 have HC:=zH hC
 have S0:=zH (Sx.start h)
 obtain⟨at0,hat⟩:∃z,z=ag ts En pl:=⟨_,rfl⟩
 rw[<-hat]
 have HAT:=zH hat
 obtain⟨kd,hkd⟩:∃z:Int,z=(kdn:Nat):=⟨_,rfl⟩
 rw[<-hkd]
 have HKD:=zH hkd
 generalize hO:((uL full pl kdn (ts.drop k)).bind fun d r=> .ok (Pa.Item.rule d) r:Out Pa.Item)=O
 unfold uL at hO
 have bind_bind:∀{α β γ:Type} (x:Out α) (f:α->List Tok->Out β) (g:β->List Tok->Out γ),(x.bind f).bind g=x.bind fun a r=>(f a r).bind g:=fun x f g=>by cases x<;>rfl
 simp only[bind_bind,bind_ok] at hO
 have HO:=zH hO
 clear hO hat hkd h hC bind_bind
 go_enter Tryz.func58,Tryz.ntmps58
 obtain⟨K0,hK0⟩:∃K0:Act->World->Prop,K0=(fun a V=>∃(bq k1:Nat) (nm:List UInt8) (ver:Int),IsAct b cb bq at0 kd a/\w.heap.size<=bq/\bq<V.heap.size/\Hid (Sx w V b p cap qb ts En mb k1)/\Hid (aH V bq [.string (bs nm),zI zL ver,zI zL kd,.string ⟨#[]⟩,zI zL 0,zI zL 0,zI zL 0,zI zL 0,zI zL 0,.string ⟨#[]⟩,zI zL 0,zI zL 0,.bool false,zI zL 0,zI zL 0,zI zL 0,.slice none 0 0,zI zL 0,zI zL 0,.string ⟨#[]⟩,zI zL 0,zI zL 0,.bool false,zI zL 0,zI zL 0,zI zL 0,.slice none 0 0,zI zL at0])/\Hid (((aI bC nameO [] (ts.drop k1)).bind fun ac r3=>(need dK r3).bind fun _ r4=>(ae r4).bind fun fr r5=>(aI aV ae 36525 r5).bind fun un r6=>(need bf r6).bind fun _ r7=>(ae r7).bind fun kn r8=>(aI bD (af M0) (aN pl) r8).bind fun wh r9=>(aI bi (af M0) (aK pl) r9).bind fun gi r10=>(kY full pl r10).bind fun _ r11=>Out.ok (Pa.Item.rule ⟨nm,ver,kdn,ac,fr,un,kn,wh,gi,pl⟩) r11:Out Pa.Item)=O)):=⟨_,rfl⟩
 have HK0:=zH hK0
 clear hK0
 refine az K0 ?_ ?_
 rotate_left
 ·intro J K hJ hK
  have HJ:=zH hJ
  clear hJ
  go_wp2_with fail
  have KS:=zH (jo _ S0.out.rd)
  generalize nameO (ts.drop k)=oo at KS HO
  refine KS.out.mono ?_
  cases oo with
  | er E q m =>
   rintro _ v1 ⟨k',rfl,hkp,hrd,hm⟩
   have SE:=zH (S0.out.call hkp hrd)
   go_wp2_with fail
   exact aa rfl (dW.er HO.out.symm rfl hm SE.out)
  | ok nm r =>
   rintro _ v1 ⟨_,k1,rfl,rfl,hkp,hrd,rfl⟩
   have S1:=zH (S0.out.call hkp hrd)
   have hsz_v1:=hkp.size
   have HO2:=HO.out
   rw[bind_ok] at HO2
   replace HO:=zH HO2
   clear HO2 hkp hrd KS
   clear S0
   go_wp2_with fail
   have KS:=zH (eT v1 S1.out.rd)
   generalize ae (ts.drop k1)=oo at KS HO
   refine KS.out.mono ?_
   cases oo with
   | er E q m =>
    rintro _ v2 ⟨k',rfl,hkp,hrd,hm⟩
    exact Cu
   | ok ver r =>
    rintro _ v2 ⟨_,k2,rfl,rfl,hkp,hrd,rfl⟩
    have S2:=zH (S1.out.call hkp hrd)
    have hsz_v2:=hkp.size
    have HO2:=HO.out
    rw[bind_ok] at HO2
    replace HO:=zH HO2
    clear HO2 hkp hrd KS
    rename_i hk2
    obtain⟨A,hA⟩:∃A:List Value,A=[.string (bs nm),zI zL ver,zI zL kd,.string ⟨#[]⟩,zI zL 0,zI zL 0,zI zL 0,zI zL 0,zI zL 0,.string ⟨#[]⟩,zI zL 0,zI zL 0,.bool false,zI zL 0,zI zL 0,zI zL 0,.slice none 0 0,zI zL 0,zI zL 0,.string ⟨#[]⟩,zI zL 0,zI zL 0,.bool false,zI zL 0,zI zL 0,zI zL 0,.slice none 0 0,zI zL at0]:=⟨_,rfl⟩
    have hsA:A.toArray.size=28:=by rw[hA];rfl
    have hoA:A.toArray.all (·.oneCell')=true:=by rw[hA];simp[Value.oneCell']
    have bl:=(Below.refl v2.heap.size v2).alloc (Nat.le_refl _) (.cells A.toArray 49)
    have S3:=zH (S2.out.bel bl)
    have D3:=zH (aH.new v2 A 49)
    clear bl S2
    have hsz3:(v2.alloc (.cells A.toArray 49)).heap.size=v2.heap.size+1:=by simp
    refine hk2 _ _ ?_
    refine qw rfl rfl (v:= .agg A.toArray) (by rw[hA];exact sP _ _ _ _ _) ?_
    simp only[Act.put,zA,zB,zC]
    refine jA rfl rfl (bK _) ?_
    simp only[Act.put,zA,zB,zC]
    refine iL rfl rfl rfl rfl (lh A.toArray hsA hoA _) ?_
    generalize v2.alloc (.cells A.toArray 49)=V2 at *
    replace D3:=zH (hA▸D3.out)
    generalize A.toArray=AA at *
    clear hk2 hA hsA hoA
    go_wp2_with fail
    refine Handed.intro 0 zah (HJ.out 0 _ _ ?_)
    rw[HK0.out]
    exact⟨v2.heap.size,k2,nm,ver,zbc,zac,zac,S3,D3,HO⟩
 rw[HK0.out]
 clear HK0
 rintro a v ⟨bq,k1,nm,ver,ha,hbq,hbv,S1,D1,HO⟩
 cases ha
 have ND:bq≠b:=zac
 obtain⟨K0,hK0⟩:∃K0:Act->World->Prop,K0=(fun a V=>∃(bq k1:Nat) (nm:List UInt8) (ver:Int) (ac:List UInt8),IsAct b cb bq at0 kd a/\w.heap.size<=bq/\bq<V.heap.size/\Hid (Sx w V b p cap qb ts En mb k1)/\Hid (aH V bq [.string (bs nm),zI zL ver,zI zL kd,.string (bs ac),zI zL 0,zI zL 0,zI zL 0,zI zL 0,zI zL 0,.string ⟨#[]⟩,zI zL 0,zI zL 0,.bool false,zI zL 0,zI zL 0,zI zL 0,.slice none 0 0,zI zL 0,zI zL 0,.string ⟨#[]⟩,zI zL 0,zI zL 0,.bool false,zI zL 0,zI zL 0,zI zL 0,.slice none 0 0,zI zL at0])/\Hid (((need dK (ts.drop k1)).bind fun _ r4=>(ae r4).bind fun fr r5=>(aI aV ae 36525 r5).bind fun un r6=>(need bf r6).bind fun _ r7=>(ae r7).bind fun kn r8=>(aI bD (af M0) (aN pl) r8).bind fun wh r9=>(aI bi (af M0) (aK pl) r9).bind fun gi r10=>(kY full pl r10).bind fun _ r11=>Out.ok (Pa.Item.rule ⟨nm,ver,kdn,ac,fr,un,kn,wh,gi,pl⟩) r11:Out Pa.Item)=O)):=⟨_,rfl⟩
 have HK0:=zH hK0
 clear hK0
 refine az K0 ?_ ?_
 rotate_left
 ·intro J K hJ hK
  have HJ:=zH hJ
  clear hJ
  have HO2:=HO.out
  unfold aI at HO2
  cases hw:isW bC (ts.drop k1) with
  | true =>
   rw[hw,if_pos rfl,List.tail_drop] at HO2
   replace HO:=zH HO2
   have KB:=zH (aA (k:=k1) bC zah v S1.out.rd)
   rw[hw,if_pos rfl] at KB
   clear HO2
   go_wp2_with fail
   refine KB.out.mono ?_
   rintro _ v2 ⟨rfl,hkp,hrd⟩
   have hsp:=hkp.size
   have S2:=zH (S1.out.call hkp hrd)
   have D2:=zH (D1.out.call (by simp) hkp ND)
   clear hkp hrd KB S1 D1
   go_wp2_with fail
   have KS:=zH (jo v2 S2.out.rd)
   generalize nameO (ts.drop (k1+1))=oo at KS HO
   refine KS.out.mono ?_
   cases oo with
   | er E q m =>
    rintro _ v3 ⟨k',rfl,hkp,hrd,hm⟩
    exact Dy
   | ok ac r =>
    rintro _ v3 ⟨_,k2,rfl,rfl,hkp,hrd,rfl⟩
    have S3:=zH (S2.out.call hkp hrd)
    have D3:=zH (D2.out.call (by simp) hkp ND)
    have hsz_v3:=hkp.size
    have HO2:=HO.out
    rw[bind_ok] at HO2
    replace HO:=zH HO2
    clear HO2 hkp hrd KS
    obtain⟨c3,f3⟩:=D3.out 3 _ rfl
    go_wp2_with fail
    have S4:=zH (S3.out.other zac 3 (.string (bs ac)))
    have D4:=zH (D3.out.set 3 (.string (bs ac)))
    simp only[List.set_cons_zero,List.set_cons_succ] at D4
    have hsz_w:(v3.setCell ⟨bq,3,none⟩ (.string (bs ac))).heap.size=v3.heap.size:=zbb
    refine Handed.intro 0 zah (HJ.out 0 _ _ ?_)
    rw[HK0.out]
    exact⟨bq,k2,nm,ver,ac,zbc,hbq,zac,S4,D4,HO⟩
  | false =>
   rw[hw,if_neg (by simp),bind_ok] at HO2
   replace HO:=zH HO2
   have KB:=zH (aA (k:=k1) bC zah v S1.out.rd)
   rw[hw,if_neg (by simp)] at KB
   clear HO2
   go_wp2_with fail
   refine KB.out.mono ?_
   rintro _ v2 ⟨rfl,hkp,hrd⟩
   have hsp:=hkp.size
   have S2:=zH (S1.out.call hkp hrd)
   have D2:=zH (D1.out.call (by simp) hkp ND)
   clear hkp hrd KB S1 D1
   go_wp2_with fail
   refine Handed.intro 0 zah (HJ.out 0 _ _ ?_)
   rw[HK0.out]
   exact⟨bq,k1,nm,ver,[],zbc,hbq,zac,S2,D2,HO⟩
 rw[HK0.out]
 clear HK0
 rintro a v ⟨bq,k1,nm,ver,ac,ha,hbq,hbv,S1,D1,HO⟩
 cases ha
 have ND:bq≠b:=zac
 obtain⟨K0,hK0⟩:∃K0:Act->World->Prop,K0=(fun a V=>∃(bq k1:Nat) (nm:List UInt8) (ver:Int) (ac:List UInt8),IsAct b cb bq at0 kd a/\w.heap.size<=bq/\bq<V.heap.size/\Hid (Sx w V b p cap qb ts En mb k1)/\Hid (aH V bq [.string (bs nm),zI zL ver,zI zL kd,.string (bs ac),zI zL 0,zI zL 0,zI zL 0,zI zL 0,zI zL 0,.string ⟨#[]⟩,zI zL 0,zI zL 0,.bool false,zI zL 0,zI zL 0,zI zL 0,.slice none 0 0,zI zL 0,zI zL 0,.string ⟨#[]⟩,zI zL 0,zI zL 0,.bool false,zI zL 0,zI zL 0,zI zL 0,.slice none 0 0,zI zL at0])/\Hid (((ae (ts.drop k1)).bind fun fr r5=>(aI aV ae 36525 r5).bind fun un r6=>(need bf r6).bind fun _ r7=>(ae r7).bind fun kn r8=>(aI bD (af M0) (aN pl) r8).bind fun wh r9=>(aI bi (af M0) (aK pl) r9).bind fun gi r10=>(kY full pl r10).bind fun _ r11=>Out.ok (Pa.Item.rule ⟨nm,ver,kdn,ac,fr,un,kn,wh,gi,pl⟩) r11:Out Pa.Item)=O)):=⟨_,rfl⟩
 have HK0:=zH hK0
 clear hK0
 refine az K0 ?_ ?_
 rotate_left
 ·intro J K hJ hK
  have HJ:=zH hJ
  clear hJ
  go_wp2_with fail
  have KS:=zH (dm dK zah v S1.out.rd)
  generalize need dK (ts.drop k1)=oo at KS HO
  refine KS.out.mono ?_
  cases oo with
  | er E q m =>
   rintro _ v3 ⟨k',rfl,hkp,hrd,hm⟩
   exact Cu
  | ok u0 r =>
   rintro _ v3 ⟨_,k2,rfl,rfl,hkp,hrd,rfl⟩
   have S3:=zH (S1.out.call hkp hrd)
   have D3:=zH (D1.out.call (by simp) hkp ND)
   have hsz_v3:=hkp.size
   have HO2:=HO.out
   rw[bind_ok] at HO2
   replace HO:=zH HO2
   clear HO2 hkp hrd KS
   go_wp2_with fail
   refine Handed.intro 0 zah (HJ.out 0 _ _ ?_)
   rw[HK0.out]
   exact⟨bq,k2,nm,ver,ac,zbc,hbq,zac,S3,D3,HO⟩
 rw[HK0.out]
 clear HK0
 rintro a v ⟨bq,k1,nm,ver,ac,ha,hbq,hbv,S1,D1,HO⟩
 cases ha
 have ND:bq≠b:=zac
 obtain⟨K0,hK0⟩:∃K0:Act->World->Prop,K0=(fun a V=>∃(bq k1:Nat) (nm:List UInt8) (ver:Int) (ac:List UInt8) (fr:Int),IsAct b cb bq at0 kd a/\w.heap.size<=bq/\bq<V.heap.size/\Hid (Sx w V b p cap qb ts En mb k1)/\Hid (aH V bq [.string (bs nm),zI zL ver,zI zL kd,.string (bs ac),zI zL fr,zI zL 36525,zI zL 0,zI zL 0,zI zL 0,.string ⟨#[]⟩,zI zL 0,zI zL 0,.bool false,zI zL 0,zI zL 0,zI zL 0,.slice none 0 0,zI zL 0,zI zL 0,.string ⟨#[]⟩,zI zL 0,zI zL 0,.bool false,zI zL 0,zI zL 0,zI zL 0,.slice none 0 0,zI zL at0])/\Hid (((aI aV ae 36525 (ts.drop k1)).bind fun un r6=>(need bf r6).bind fun _ r7=>(ae r7).bind fun kn r8=>(aI bD (af M0) (aN pl) r8).bind fun wh r9=>(aI bi (af M0) (aK pl) r9).bind fun gi r10=>(kY full pl r10).bind fun _ r11=>Out.ok (Pa.Item.rule ⟨nm,ver,kdn,ac,fr,un,kn,wh,gi,pl⟩) r11:Out Pa.Item)=O)):=⟨_,rfl⟩
 have HK0:=zH hK0
 clear hK0
 refine az K0 ?_ ?_
 rotate_left
 ·intro J K hJ hK
  have HJ:=zH hJ
  clear hJ
  go_wp2_with fail
  have KS:=zH (eT v S1.out.rd)
  generalize ae (ts.drop k1)=oo at KS HO
  refine KS.out.mono ?_
  cases oo with
  | er E q m =>
   rintro _ v3 ⟨k',rfl,hkp,hrd,hm⟩
   exact Cu
  | ok fr r =>
   rintro _ v3 ⟨_,k2,rfl,rfl,hkp,hrd,rfl⟩
   have S3:=zH (S1.out.call hkp hrd)
   have D3:=zH (D1.out.call (by simp) hkp ND)
   have hsz_v3:=hkp.size
   have HO2:=HO.out
   rw[bind_ok] at HO2
   replace HO:=zH HO2
   clear HO2 hkp hrd KS
   obtain⟨c4,f4⟩:=D3.out 4 _ rfl
   obtain⟨c5,f5⟩:=D3.out 5 _ rfl
   go_wp2_with fail
   have S4:=zH ((S3.out.other zac 4 (zI zL fr)).other zac 5 (zI zL 36525))
   have D4:=zH ((D3.out.set 4 (zI zL fr)).set 5 (zI zL 36525))
   simp only[List.set_cons_zero,List.set_cons_succ] at D4
   have hsz_w:((v3.setCell ⟨bq,4,none⟩ (zI zL fr)).setCell ⟨bq,5,none⟩ (zI zL 36525)).heap.size=v3.heap.size:=zbb
   refine Handed.intro 0 zah (HJ.out 0 _ _ ?_)
   rw[HK0.out]
   exact⟨bq,k2,nm,ver,ac,fr,zbc,hbq,zac,S4,D4,HO⟩
 rw[HK0.out]
 clear HK0
 rintro a v ⟨bq,k1,nm,ver,ac,fr,ha,hbq,hbv,S1,D1,HO⟩
 cases ha
 have ND:bq≠b:=zac
 obtain⟨K0,hK0⟩:∃K0:Act->World->Prop,K0=(fun a V=>∃(bq k1:Nat) (nm:List UInt8) (ver:Int) (ac:List UInt8) (fr:Int) (un:Int),IsAct b cb bq at0 kd a/\w.heap.size<=bq/\bq<V.heap.size/\Hid (Sx w V b p cap qb ts En mb k1)/\Hid (aH V bq [.string (bs nm),zI zL ver,zI zL kd,.string (bs ac),zI zL fr,zI zL un,zI zL 0,zI zL 0,zI zL 0,.string ⟨#[]⟩,zI zL 0,zI zL 0,.bool false,zI zL 0,zI zL 0,zI zL 0,.slice none 0 0,zI zL 0,zI zL 0,.string ⟨#[]⟩,zI zL 0,zI zL 0,.bool false,zI zL 0,zI zL 0,zI zL 0,.slice none 0 0,zI zL at0])/\Hid (((need bf (ts.drop k1)).bind fun _ r7=>(ae r7).bind fun kn r8=>(aI bD (af M0) (aN pl) r8).bind fun wh r9=>(aI bi (af M0) (aK pl) r9).bind fun gi r10=>(kY full pl r10).bind fun _ r11=>Out.ok (Pa.Item.rule ⟨nm,ver,kdn,ac,fr,un,kn,wh,gi,pl⟩) r11:Out Pa.Item)=O)):=⟨_,rfl⟩
 have HK0:=zH hK0
 clear hK0
 refine az K0 ?_ ?_
 rotate_left
 ·intro J K hJ hK
  have HJ:=zH hJ
  clear hJ
  have HO2:=HO.out
  unfold aI at HO2
  cases hw:isW aV (ts.drop k1) with
  | true =>
   rw[hw,if_pos rfl,List.tail_drop] at HO2
   replace HO:=zH HO2
   have KB:=zH (aA (k:=k1) aV zah v S1.out.rd)
   rw[hw,if_pos rfl] at KB
   clear HO2
   go_wp2_with fail
   refine KB.out.mono ?_
   rintro _ v2 ⟨rfl,hkp,hrd⟩
   have hsp:=hkp.size
   have S2:=zH (S1.out.call hkp hrd)
   have D2:=zH (D1.out.call (by simp) hkp ND)
   clear hkp hrd KB S1 D1
   go_wp2_with fail
   have KS:=zH (eT v2 S2.out.rd)
   generalize ae (ts.drop (k1+1))=oo at KS HO
   refine KS.out.mono ?_
   cases oo with
   | er E q m =>
    rintro _ v3 ⟨k',rfl,hkp,hrd,hm⟩
    exact Dy
   | ok un r =>
    rintro _ v3 ⟨_,k2,rfl,rfl,hkp,hrd,rfl⟩
    have S3:=zH (S2.out.call hkp hrd)
    have D3:=zH (D2.out.call (by simp) hkp ND)
    have hsz_v3:=hkp.size
    have HO2:=HO.out
    rw[bind_ok] at HO2
    replace HO:=zH HO2
    clear HO2 hkp hrd KS
    obtain⟨c5,f5⟩:=D3.out 5 _ rfl
    go_wp2_with fail
    have S4:=zH (S3.out.other zac 5 (zI zL un))
    have D4:=zH (D3.out.set 5 (zI zL un))
    simp only[List.set_cons_zero,List.set_cons_succ] at D4
    have hsz_w:(v3.setCell ⟨bq,5,none⟩ (zI zL un)).heap.size=v3.heap.size:=zbb
    refine Handed.intro 0 zah (HJ.out 0 _ _ ?_)
    rw[HK0.out]
    exact⟨bq,k2,nm,ver,ac,fr,un,zbc,hbq,zac,S4,D4,HO⟩
  | false =>
   rw[hw,if_neg (by simp),bind_ok] at HO2
   replace HO:=zH HO2
   have KB:=zH (aA (k:=k1) aV zah v S1.out.rd)
   rw[hw,if_neg (by simp)] at KB
   clear HO2
   go_wp2_with fail
   refine KB.out.mono ?_
   rintro _ v2 ⟨rfl,hkp,hrd⟩
   have hsp:=hkp.size
   have S2:=zH (S1.out.call hkp hrd)
   have D2:=zH (D1.out.call (by simp) hkp ND)
   clear hkp hrd KB S1 D1
   go_wp2_with fail
   refine Handed.intro 0 zah (HJ.out 0 _ _ ?_)
   rw[HK0.out]
   exact⟨bq,k1,nm,ver,ac,fr,36525,zbc,hbq,zac,S2,D2,HO⟩
 rw[HK0.out]
 clear HK0
 rintro a v ⟨bq,k1,nm,ver,ac,fr,un,ha,hbq,hbv,S1,D1,HO⟩
 cases ha
 have ND:bq≠b:=zac
 obtain⟨K0,hK0⟩:∃K0:Act->World->Prop,K0=(fun a V=>∃(bq k1:Nat) (nm:List UInt8) (ver:Int) (ac:List UInt8) (fr:Int) (un:Int),IsAct b cb bq at0 kd a/\w.heap.size<=bq/\bq<V.heap.size/\Hid (Sx w V b p cap qb ts En mb k1)/\Hid (aH V bq [.string (bs nm),zI zL ver,zI zL kd,.string (bs ac),zI zL fr,zI zL un,zI zL 0,zI zL 0,zI zL 0,.string ⟨#[]⟩,zI zL 0,zI zL 0,.bool false,zI zL 0,zI zL 0,zI zL 0,.slice none 0 0,zI zL 0,zI zL 0,.string ⟨#[]⟩,zI zL 0,zI zL 0,.bool false,zI zL 0,zI zL 0,zI zL 0,.slice none 0 0,zI zL at0])/\Hid (((ae (ts.drop k1)).bind fun kn r8=>(aI bD (af M0) (aN pl) r8).bind fun wh r9=>(aI bi (af M0) (aK pl) r9).bind fun gi r10=>(kY full pl r10).bind fun _ r11=>Out.ok (Pa.Item.rule ⟨nm,ver,kdn,ac,fr,un,kn,wh,gi,pl⟩) r11:Out Pa.Item)=O)):=⟨_,rfl⟩
 have HK0:=zH hK0
 clear hK0
 refine az K0 ?_ ?_
 rotate_left
 ·intro J K hJ hK
  have HJ:=zH hJ
  clear hJ
  go_wp2_with fail
  have KS:=zH (dm bf zah v S1.out.rd)
  generalize need bf (ts.drop k1)=oo at KS HO
  refine KS.out.mono ?_
  cases oo with
  | er E q m =>
   rintro _ v3 ⟨k',rfl,hkp,hrd,hm⟩
   exact Cu
  | ok u0 r =>
   rintro _ v3 ⟨_,k2,rfl,rfl,hkp,hrd,rfl⟩
   have S3:=zH (S1.out.call hkp hrd)
   have D3:=zH (D1.out.call (by simp) hkp ND)
   have hsz_v3:=hkp.size
   have HO2:=HO.out
   rw[bind_ok] at HO2
   replace HO:=zH HO2
   clear HO2 hkp hrd KS
   go_wp2_with fail
   refine Handed.intro 0 zah (HJ.out 0 _ _ ?_)
   rw[HK0.out]
   exact⟨bq,k2,nm,ver,ac,fr,un,zbc,hbq,zac,S3,D3,HO⟩
 rw[HK0.out]
 clear HK0
 rintro a v ⟨bq,k1,nm,ver,ac,fr,un,ha,hbq,hbv,S1,D1,HO⟩
 cases ha
 have ND:bq≠b:=zac
 obtain⟨K0,hK0⟩:∃K0:Act->World->Prop,K0=(fun a V=>∃(bq k1:Nat) (nm:List UInt8) (ver:Int) (ac:List UInt8) (fr:Int) (un:Int) (kn:Int),IsAct b cb bq at0 kd a/\w.heap.size<=bq/\bq<V.heap.size/\Hid (Sx w V b p cap qb ts En mb k1)/\Hid (aH V bq [.string (bs nm),zI zL ver,zI zL kd,.string (bs ac),zI zL fr,zI zL un,zI zL kn,zI zL 0,zI zL 0,.string ⟨#[]⟩,zI zL 0,zI zL 0,.bool false,zI zL 0,zI zL 0,zI zL 0,.slice none 0 0,zI zL 0,zI zL 0,.string ⟨#[]⟩,zI zL 0,zI zL 0,.bool false,zI zL 0,zI zL 0,zI zL 0,.slice none 0 0,zI zL at0])/\Hid (((aI bD (af M0) (aN pl) (ts.drop k1)).bind fun wh r9=>(aI bi (af M0) (aK pl) r9).bind fun gi r10=>(kY full pl r10).bind fun _ r11=>Out.ok (Pa.Item.rule ⟨nm,ver,kdn,ac,fr,un,kn,wh,gi,pl⟩) r11:Out Pa.Item)=O)):=⟨_,rfl⟩
 have HK0:=zH hK0
 clear hK0
 refine az K0 ?_ ?_
 rotate_left
 ·intro J K hJ hK
  have HJ:=zH hJ
  clear hJ
  go_wp2_with fail
  have KS:=zH (eT v S1.out.rd)
  generalize ae (ts.drop k1)=oo at KS HO
  refine KS.out.mono ?_
  cases oo with
  | er E q m =>
   rintro _ v3 ⟨k',rfl,hkp,hrd,hm⟩
   exact Cu
  | ok kn r =>
   rintro _ v3 ⟨_,k2,rfl,rfl,hkp,hrd,rfl⟩
   have S3:=zH (S1.out.call hkp hrd)
   have D3:=zH (D1.out.call (by simp) hkp ND)
   have hsz_v3:=hkp.size
   have HO2:=HO.out
   rw[bind_ok] at HO2
   replace HO:=zH HO2
   clear HO2 hkp hrd KS
   obtain⟨c6,f6⟩:=D3.out 6 _ rfl
   go_wp2_with fail
   have S4:=zH (S3.out.other zac 6 (zI zL kn))
   have D4:=zH (D3.out.set 6 (zI zL kn))
   simp only[List.set_cons_zero,List.set_cons_succ] at D4
   have hsz_w:(v3.setCell ⟨bq,6,none⟩ (zI zL kn)).heap.size=v3.heap.size:=zbb
   refine Handed.intro 0 zah (HJ.out 0 _ _ ?_)
   rw[HK0.out]
   exact⟨bq,k2,nm,ver,ac,fr,un,kn,zbc,hbq,zac,S4,D4,HO⟩
 rw[HK0.out]
 clear HK0
 rintro a v ⟨bq,k1,nm,ver,ac,fr,un,kn,ha,hbq,hbv,S1,D1,HO⟩
 cases ha
 have ND:bq≠b:=zac
 obtain⟨K0,hK0⟩:∃K0:Act->World->Prop,K0=(fun a V=>∃(bq k1:Nat) (nm:List UInt8) (ver:Int) (ac:List UInt8) (fr:Int) (un:Int) (kn:Int),IsAct b cb bq at0 kd a/\w.heap.size<=bq/\bq<V.heap.size/\Hid (Sx w V b p cap qb ts En mb k1)/\Hid (aH V bq [.string (bs nm),zI zL ver,zI zL kd,.string (bs ac),zI zL fr,zI zL un,zI zL kn,zI zL 17,zI zL at0,.string ⟨#[]⟩,zI zL 0,zI zL 0,.bool false,zI zL 0,zI zL 0,zI zL 0,.slice none 0 0,zI zL 0,zI zL 0,.string ⟨#[]⟩,zI zL 0,zI zL 0,.bool false,zI zL 0,zI zL 0,zI zL 0,.slice none 0 0,zI zL at0])/\Hid (((aI bD (af M0) (aN pl) (ts.drop k1)).bind fun wh r9=>(aI bi (af M0) (aK pl) r9).bind fun gi r10=>(kY full pl r10).bind fun _ r11=>Out.ok (Pa.Item.rule ⟨nm,ver,kdn,ac,fr,un,kn,wh,gi,pl⟩) r11:Out Pa.Item)=O)):=⟨_,rfl⟩
 have HK0:=zH hK0
 clear hK0
 refine az K0 ?_ ?_
 rotate_left
 ·intro J K hJ hK
  have HJ:=zH hJ
  clear hJ
  obtain⟨c7,f7⟩:=D1.out 7 _ rfl
  obtain⟨c8,f8⟩:=D1.out 8 _ rfl
  obtain⟨c9,f9⟩:=D1.out 9 _ rfl
  obtain⟨c10,f10⟩:=D1.out 10 _ rfl
  obtain⟨c11,f11⟩:=D1.out 11 _ rfl
  obtain⟨c12,f12⟩:=D1.out 12 _ rfl
  obtain⟨c13,f13⟩:=D1.out 13 _ rfl
  obtain⟨c14,f14⟩:=D1.out 14 _ rfl
  obtain⟨c15,f15⟩:=D1.out 15 _ rfl
  obtain⟨c16,f16⟩:=D1.out 16 _ rfl
  go_wp2_with fail
  have S4:=zH ((((((((((S1.out.other zac 7 (zI zL 17)).other zac 8 (zI zL at0)).other zac 9 (.string ⟨#[]⟩)).other zac 10 (zI zL 0)).other zac 11 (zI zL 0)).other zac 12 (.bool false)).other zac 13 (zI zL 0)).other zac 14 (zI zL 0)).other zac 15 (zI zL 0)).other zac 16 (.slice none 0 0))
  have D4:=zH ((((((((((D1.out.set 7 (zI zL 17)).set 8 (zI zL at0)).set 9 (.string ⟨#[]⟩)).set 10 (zI zL 0)).set 11 (zI zL 0)).set 12 (.bool false)).set 13 (zI zL 0)).set 14 (zI zL 0)).set 15 (zI zL 0)).set 16 (.slice none 0 0))
  simp only[List.set_cons_zero,List.set_cons_succ] at D4
  have hsz_w:((((((((((v.setCell ⟨bq,7,none⟩ (zI zL 17)).setCell ⟨bq,8,none⟩ (zI zL at0)).setCell ⟨bq,9,none⟩ (.string ⟨#[]⟩)).setCell ⟨bq,10,none⟩ (zI zL 0)).setCell ⟨bq,11,none⟩ (zI zL 0)).setCell ⟨bq,12,none⟩ (.bool false)).setCell ⟨bq,13,none⟩ (zI zL 0)).setCell ⟨bq,14,none⟩ (zI zL 0)).setCell ⟨bq,15,none⟩ (zI zL 0)).setCell ⟨bq,16,none⟩ (.slice none 0 0)).heap.size=v.heap.size:=zbb
  refine Handed.intro 0 zah (HJ.out 0 _ _ ?_)
  rw[HK0.out]
  exact⟨bq,k1,nm,ver,ac,fr,un,kn,zbc,hbq,zac,S4,D4,HO⟩
 rw[HK0.out]
 clear HK0
 rintro a v ⟨bq,k1,nm,ver,ac,fr,un,kn,ha,hbq,hbv,S1,D1,HO⟩
 cases ha
 have ND:bq≠b:=zac
 obtain⟨K0,hK0⟩:∃K0:Act->World->Prop,K0=(fun a V=>∃(bq k1:Nat) (nm:List UInt8) (ver:Int) (ac:List UInt8) (fr:Int) (un:Int) (kn:Int) (wh:Tree) (x:NV),IsAct b cb bq at0 kd a/\w.heap.size<=bq/\bq<V.heap.size/\Hid (Sx w V b p cap qb ts En mb k1)/\Hid (aH V bq [.string (bs nm),zI zL ver,zI zL kd,.string (bs ac),zI zL fr,zI zL un,zI zL kn,zI zL x.o,zI zL x.a,.string x.s,zI zL x.n,zI zL x.d,.bool x.f,zI zL x.m,zI zL x.r,zI zL x.y,.slice x.q x.k x.c,zI zL 0,zI zL 0,.string ⟨#[]⟩,zI zL 0,zI zL 0,.bool false,zI zL 0,zI zL 0,zI zL 0,.slice none 0 0,zI zL at0])/\Hid (NodeA V (fun j=>bq<j) (ag ts En) wh x)/\Hid (((aI bi (af M0) (aK pl) (ts.drop k1)).bind fun gi r10=>(kY full pl r10).bind fun _ r11=>Out.ok (Pa.Item.rule ⟨nm,ver,kdn,ac,fr,un,kn,wh,gi,pl⟩) r11:Out Pa.Item)=O)):=⟨_,rfl⟩
 have HK0:=zH hK0
 clear hK0
 refine az K0 ?_ ?_
 rotate_left
 ·intro J K hJ hK
  have HJ:=zH hJ
  clear hJ
  have HO2:=HO.out
  unfold aI at HO2
  cases hw:isW bD (ts.drop k1) with
  | true =>
   rw[hw,if_pos rfl,List.tail_drop] at HO2
   replace HO:=zH HO2
   have KB:=zH (aA (k:=k1) bD zah v S1.out.rd)
   rw[hw,if_pos rfl] at KB
   clear HO2
   go_wp2_with fail
   refine KB.out.mono ?_
   rintro _ v2 ⟨rfl,hkp,hrd⟩
   have hsp:=hkp.size
   have S2:=zH (S1.out.call hkp hrd)
   have D2:=zH (D1.out.call (by simp) hkp ND)
   clear hkp hrd KB S1 D1
   go_wp2_with fail
   have KS:=zH (jW (k1+1) v2 S2.out.rd)
   generalize af M0 (ts.drop (k1+1))=oo at KS HO
   refine KS.out.mono ?_
   cases oo with
   | er E q m =>
    rintro _ v3 ⟨k',rfl,hkp,hrd,hm⟩
    exact Dy
   | ok wh r =>
    rintro _ v3 ⟨_,k2,rfl,⟨⟨xo,xa,xs,xn,xd,xf,xm,xr,xy,xq,xk,xc⟩,rfl,hx⟩,hkp,hrd,rfl⟩
    have S3:=zH (S2.out.call hkp hrd)
    have D3:=zH (D2.out.call (by simp) hkp ND)
    have hsz_v3:=hkp.size
    have HO2:=HO.out
    rw[bind_ok] at HO2
    replace HO:=zH HO2
    clear HO2 hrd KS
    have HX:Hid (NodeA v3 (fun j=>bq<j) (ag ts En) wh ⟨xo,xa,xs,xn,xd,xf,xm,xr,xy,xq,xk,xc⟩):=NodeA.keep (Nat.le_refl _) (fun _ _ _=>rfl) (fun j (hj:v2.heap.size<=j) _=>(by show bq<j;omega)) _ _ hx
    clear hx
    unfold nv
    obtain⟨c7,f7⟩:=D3.out 7 _ rfl
    obtain⟨c8,f8⟩:=D3.out 8 _ rfl
    obtain⟨c9,f9⟩:=D3.out 9 _ rfl
    obtain⟨c10,f10⟩:=D3.out 10 _ rfl
    obtain⟨c11,f11⟩:=D3.out 11 _ rfl
    obtain⟨c12,f12⟩:=D3.out 12 _ rfl
    obtain⟨c13,f13⟩:=D3.out 13 _ rfl
    obtain⟨c14,f14⟩:=D3.out 14 _ rfl
    obtain⟨c15,f15⟩:=D3.out 15 _ rfl
    obtain⟨c16,f16⟩:=D3.out 16 _ rfl
    go_wp2_with fail
    have S4:=zH ((((((((((S3.out.other zac 7 (zI zL xo)).other zac 8 (zI zL xa)).other zac 9 (.string xs)).other zac 10 (zI zL xn)).other zac 11 (zI zL xd)).other zac 12 (.bool xf)).other zac 13 (zI zL xm)).other zac 14 (zI zL xr)).other zac 15 (zI zL xy)).other zac 16 (.slice xq xk xc))
    have D4:=zH ((((((((((D3.out.set 7 (zI zL xo)).set 8 (zI zL xa)).set 9 (.string xs)).set 10 (zI zL xn)).set 11 (zI zL xd)).set 12 (.bool xf)).set 13 (zI zL xm)).set 14 (zI zL xr)).set 15 (zI zL xy)).set 16 (.slice xq xk xc))
    simp only[List.set_cons_zero,List.set_cons_succ] at D4
    have hsz_w:((((((((((v3.setCell ⟨bq,7,none⟩ (zI zL xo)).setCell ⟨bq,8,none⟩ (zI zL xa)).setCell ⟨bq,9,none⟩ (.string xs)).setCell ⟨bq,10,none⟩ (zI zL xn)).setCell ⟨bq,11,none⟩ (zI zL xd)).setCell ⟨bq,12,none⟩ (.bool xf)).setCell ⟨bq,13,none⟩ (zI zL xm)).setCell ⟨bq,14,none⟩ (zI zL xr)).setCell ⟨bq,15,none⟩ (zI zL xy)).setCell ⟨bq,16,none⟩ (.slice xq xk xc)).heap.size=v3.heap.size:=zbb
    have HX2:=zH (NodeA.set (NodeA.set (NodeA.set (NodeA.set (NodeA.set (NodeA.set (NodeA.set (NodeA.set (NodeA.set (NodeA.set HX.out zao 7 (zI zL xo)) zao 8 (zI zL xa)) zao 9 (.string xs)) zao 10 (zI zL xn)) zao 11 (zI zL xd)) zao 12 (.bool xf)) zao 13 (zI zL xm)) zao 14 (zI zL xr)) zao 15 (zI zL xy)) zao 16 (.slice xq xk xc))
    refine Handed.intro 0 zah (HJ.out 0 _ _ ?_)
    rw[HK0.out]
    exact⟨bq,k2,nm,ver,ac,fr,un,kn,wh,⟨xo,xa,xs,xn,xd,xf,xm,xr,xy,xq,xk,xc⟩,zbc,hbq,zac,S4,D4,HX2,HO⟩
  | false =>
   rw[hw,if_neg (by simp),bind_ok] at HO2
   replace HO:=zH HO2
   have KB:=zH (aA (k:=k1) bD zah v S1.out.rd)
   rw[hw,if_neg (by simp)] at KB
   clear HO2
   go_wp2_with fail
   refine KB.out.mono ?_
   rintro _ v2 ⟨rfl,hkp,hrd⟩
   have hsp:=hkp.size
   have S2:=zH (S1.out.call hkp hrd)
   have D2:=zH (D1.out.call (by simp) hkp ND)
   clear hkp hrd KB S1 D1
   go_wp2_with fail
   refine Handed.intro 0 zah (HJ.out 0 _ _ ?_)
   rw[HK0.out]
   exact⟨bq,k1,nm,ver,ac,fr,un,kn,aN pl,⟨17,at0,⟨#[]⟩,0,0,false,0,0,0,none,0,0⟩,zbc,hbq,zac,S2,D2,by rw[HAT.out];exact zH (oD _ _ _ _),HO⟩
 rw[HK0.out]
 clear HK0
 rintro a v ⟨bq,k1,nm,ver,ac,fr,un,kn,wh,x,ha,hbq,hbv,S1,D1,N0,HO⟩
 cases ha
 have ND:bq≠b:=zac
 obtain⟨K0,hK0⟩:∃K0:Act->World->Prop,K0=(fun a V=>∃(bq k1:Nat) (nm:List UInt8) (ver:Int) (ac:List UInt8) (fr:Int) (un:Int) (kn:Int) (wh:Tree) (x:NV),IsAct b cb bq at0 kd a/\w.heap.size<=bq/\bq<V.heap.size/\Hid (Sx w V b p cap qb ts En mb k1)/\Hid (aH V bq [.string (bs nm),zI zL ver,zI zL kd,.string (bs ac),zI zL fr,zI zL un,zI zL kn,zI zL x.o,zI zL x.a,.string x.s,zI zL x.n,zI zL x.d,.bool x.f,zI zL x.m,zI zL x.r,zI zL x.y,.slice x.q x.k x.c,zI zL 1,zI zL at0,.string ⟨#[]⟩,zI zL 0,zI zL 1,.bool false,zI zL 0,zI zL 0,zI zL 0,.slice none 0 0,zI zL at0])/\Hid (NodeA V (fun j=>bq<j) (ag ts En) wh x)/\Hid (((aI bi (af M0) (aK pl) (ts.drop k1)).bind fun gi r10=>(kY full pl r10).bind fun _ r11=>Out.ok (Pa.Item.rule ⟨nm,ver,kdn,ac,fr,un,kn,wh,gi,pl⟩) r11:Out Pa.Item)=O)):=⟨_,rfl⟩
 have HK0:=zH hK0
 clear hK0
 refine az K0 ?_ ?_
 rotate_left
 ·intro J K hJ hK
  have HJ:=zH hJ
  clear hJ
  obtain⟨c17,f17⟩:=D1.out 17 _ rfl
  obtain⟨c18,f18⟩:=D1.out 18 _ rfl
  obtain⟨c19,f19⟩:=D1.out 19 _ rfl
  obtain⟨c20,f20⟩:=D1.out 20 _ rfl
  obtain⟨c21,f21⟩:=D1.out 21 _ rfl
  obtain⟨c22,f22⟩:=D1.out 22 _ rfl
  obtain⟨c23,f23⟩:=D1.out 23 _ rfl
  obtain⟨c24,f24⟩:=D1.out 24 _ rfl
  obtain⟨c25,f25⟩:=D1.out 25 _ rfl
  obtain⟨c26,f26⟩:=D1.out 26 _ rfl
  go_wp2_with fail
  have S4:=zH ((((((((((S1.out.other zac 17 (zI zL 1)).other zac 18 (zI zL at0)).other zac 19 (.string ⟨#[]⟩)).other zac 20 (zI zL 0)).other zac 21 (zI zL 1)).other zac 22 (.bool false)).other zac 23 (zI zL 0)).other zac 24 (zI zL 0)).other zac 25 (zI zL 0)).other zac 26 (.slice none 0 0))
  have D4:=zH ((((((((((D1.out.set 17 (zI zL 1)).set 18 (zI zL at0)).set 19 (.string ⟨#[]⟩)).set 20 (zI zL 0)).set 21 (zI zL 1)).set 22 (.bool false)).set 23 (zI zL 0)).set 24 (zI zL 0)).set 25 (zI zL 0)).set 26 (.slice none 0 0))
  simp only[List.set_cons_zero,List.set_cons_succ] at D4
  have hsz_w:((((((((((v.setCell ⟨bq,17,none⟩ (zI zL 1)).setCell ⟨bq,18,none⟩ (zI zL at0)).setCell ⟨bq,19,none⟩ (.string ⟨#[]⟩)).setCell ⟨bq,20,none⟩ (zI zL 0)).setCell ⟨bq,21,none⟩ (zI zL 1)).setCell ⟨bq,22,none⟩ (.bool false)).setCell ⟨bq,23,none⟩ (zI zL 0)).setCell ⟨bq,24,none⟩ (zI zL 0)).setCell ⟨bq,25,none⟩ (zI zL 0)).setCell ⟨bq,26,none⟩ (.slice none 0 0)).heap.size=v.heap.size:=zbb
  have N0z:=zH (NodeA.set (NodeA.set (NodeA.set (NodeA.set (NodeA.set (NodeA.set (NodeA.set (NodeA.set (NodeA.set (NodeA.set N0.out zao 17 (zI zL 1)) zao 18 (zI zL at0)) zao 19 (.string ⟨#[]⟩)) zao 20 (zI zL 0)) zao 21 (zI zL 1)) zao 22 (.bool false)) zao 23 (zI zL 0)) zao 24 (zI zL 0)) zao 25 (zI zL 0)) zao 26 (.slice none 0 0))
  refine Handed.intro 0 zah (HJ.out 0 _ _ ?_)
  rw[HK0.out]
  exact⟨bq,k1,nm,ver,ac,fr,un,kn,wh,x,zbc,hbq,zac,S4,D4,N0z,HO⟩
 rw[HK0.out]
 clear HK0
 rintro a v ⟨bq,k1,nm,ver,ac,fr,un,kn,wh,x,ha,hbq,hbv,S1,D1,N0,HO⟩
 cases ha
 have ND:bq≠b:=zac
 obtain⟨K0,hK0⟩:∃K0:Act->World->Prop,K0=(fun a V=>∃(bq k1:Nat) (nm:List UInt8) (ver:Int) (ac:List UInt8) (fr:Int) (un:Int) (kn:Int) (wh:Tree) (x:NV) (gi:Tree) (y:NV),IsAct b cb bq at0 kd a/\w.heap.size<=bq/\bq<V.heap.size/\Hid (Sx w V b p cap qb ts En mb k1)/\Hid (aH V bq [.string (bs nm),zI zL ver,zI zL kd,.string (bs ac),zI zL fr,zI zL un,zI zL kn,zI zL x.o,zI zL x.a,.string x.s,zI zL x.n,zI zL x.d,.bool x.f,zI zL x.m,zI zL x.r,zI zL x.y,.slice x.q x.k x.c,zI zL y.o,zI zL y.a,.string y.s,zI zL y.n,zI zL y.d,.bool y.f,zI zL y.m,zI zL y.r,zI zL y.y,.slice y.q y.k y.c,zI zL at0])/\Hid (NodeA V (fun j=>bq<j) (ag ts En) wh x)/\Hid (NodeA V (fun j=>bq<j) (ag ts En) gi y)/\Hid (((kY full pl (ts.drop k1)).bind fun _ r11=>Out.ok (Pa.Item.rule ⟨nm,ver,kdn,ac,fr,un,kn,wh,gi,pl⟩) r11:Out Pa.Item)=O)):=⟨_,rfl⟩
 have HK0:=zH hK0
 clear hK0
 refine az K0 ?_ ?_
 rotate_left
 ·intro J K hJ hK
  have HJ:=zH hJ
  clear hJ
  have HO2:=HO.out
  unfold aI at HO2
  cases hw:isW bi (ts.drop k1) with
  | true =>
   rw[hw,if_pos rfl,List.tail_drop] at HO2
   replace HO:=zH HO2
   have KB:=zH (aA (k:=k1) bi zah v S1.out.rd)
   rw[hw,if_pos rfl] at KB
   clear HO2
   go_wp2_with fail
   refine KB.out.mono ?_
   rintro _ v2 ⟨rfl,hkp,hrd⟩
   have hsp:=hkp.size
   have S2:=zH (S1.out.call hkp hrd)
   have D2:=zH (D1.out.call (by simp) hkp ND)
   have N0x:=zH (NodeA.keep hkp.size (fun j (hj:bq<j) hj2=>hkp.block j hj2 zac) (fun j hj _=>hj) _ _ N0.out)
   clear hkp hrd KB S1 D1 N0
   go_wp2_with fail
   have KS:=zH (jW (k1+1) v2 S2.out.rd)
   generalize af M0 (ts.drop (k1+1))=oo at KS HO
   refine KS.out.mono ?_
   cases oo with
   | er E q m =>
    rintro _ v3 ⟨k',rfl,hkp,hrd,hm⟩
    exact Dy
   | ok gi r =>
    rintro _ v3 ⟨_,k2,rfl,⟨⟨yo,ya,ys,yn,yd,yf,ym,yr,yy,yq,yk,yc⟩,rfl,hx⟩,hkp,hrd,rfl⟩
    have S3:=zH (S2.out.call hkp hrd)
    have D3:=zH (D2.out.call (by simp) hkp ND)
    have N0y:=zH (NodeA.keep hkp.size (fun j (hj:bq<j) hj2=>hkp.block j hj2 zac) (fun j hj _=>hj) _ _ N0x.out)
    have hsz_v3:=hkp.size
    have HO2:=HO.out
    rw[bind_ok] at HO2
    replace HO:=zH HO2
    clear HO2 hkp hrd KS
    have HY:Hid (NodeA v3 (fun j=>bq<j) (ag ts En) gi ⟨yo,ya,ys,yn,yd,yf,ym,yr,yy,yq,yk,yc⟩):=NodeA.keep (Nat.le_refl _) (fun _ _ _=>rfl) (fun j (hj:v2.heap.size<=j) _=>(by show bq<j;omega)) _ _ hx
    clear hx
    unfold nv
    obtain⟨c17,f17⟩:=D3.out 17 _ rfl
    obtain⟨c18,f18⟩:=D3.out 18 _ rfl
    obtain⟨c19,f19⟩:=D3.out 19 _ rfl
    obtain⟨c20,f20⟩:=D3.out 20 _ rfl
    obtain⟨c21,f21⟩:=D3.out 21 _ rfl
    obtain⟨c22,f22⟩:=D3.out 22 _ rfl
    obtain⟨c23,f23⟩:=D3.out 23 _ rfl
    obtain⟨c24,f24⟩:=D3.out 24 _ rfl
    obtain⟨c25,f25⟩:=D3.out 25 _ rfl
    obtain⟨c26,f26⟩:=D3.out 26 _ rfl
    go_wp2_with fail
    have S4:=zH ((((((((((S3.out.other zac 17 (zI zL yo)).other zac 18 (zI zL ya)).other zac 19 (.string ys)).other zac 20 (zI zL yn)).other zac 21 (zI zL yd)).other zac 22 (.bool yf)).other zac 23 (zI zL ym)).other zac 24 (zI zL yr)).other zac 25 (zI zL yy)).other zac 26 (.slice yq yk yc))
    have D4:=zH ((((((((((D3.out.set 17 (zI zL yo)).set 18 (zI zL ya)).set 19 (.string ys)).set 20 (zI zL yn)).set 21 (zI zL yd)).set 22 (.bool yf)).set 23 (zI zL ym)).set 24 (zI zL yr)).set 25 (zI zL yy)).set 26 (.slice yq yk yc))
    simp only[List.set_cons_zero,List.set_cons_succ] at D4
    have hsz_w:((((((((((v3.setCell ⟨bq,17,none⟩ (zI zL yo)).setCell ⟨bq,18,none⟩ (zI zL ya)).setCell ⟨bq,19,none⟩ (.string ys)).setCell ⟨bq,20,none⟩ (zI zL yn)).setCell ⟨bq,21,none⟩ (zI zL yd)).setCell ⟨bq,22,none⟩ (.bool yf)).setCell ⟨bq,23,none⟩ (zI zL ym)).setCell ⟨bq,24,none⟩ (zI zL yr)).setCell ⟨bq,25,none⟩ (zI zL yy)).setCell ⟨bq,26,none⟩ (.slice yq yk yc)).heap.size=v3.heap.size:=zbb
    have N0w:=zH (NodeA.set (NodeA.set (NodeA.set (NodeA.set (NodeA.set (NodeA.set (NodeA.set (NodeA.set (NodeA.set (NodeA.set N0y.out zao 17 (zI zL yo)) zao 18 (zI zL ya)) zao 19 (.string ys)) zao 20 (zI zL yn)) zao 21 (zI zL yd)) zao 22 (.bool yf)) zao 23 (zI zL ym)) zao 24 (zI zL yr)) zao 25 (zI zL yy)) zao 26 (.slice yq yk yc))
    have HY2:=zH (NodeA.set (NodeA.set (NodeA.set (NodeA.set (NodeA.set (NodeA.set (NodeA.set (NodeA.set (NodeA.set (NodeA.set HY.out zao 17 (zI zL yo)) zao 18 (zI zL ya)) zao 19 (.string ys)) zao 20 (zI zL yn)) zao 21 (zI zL yd)) zao 22 (.bool yf)) zao 23 (zI zL ym)) zao 24 (zI zL yr)) zao 25 (zI zL yy)) zao 26 (.slice yq yk yc))
    refine Handed.intro 0 zah (HJ.out 0 _ _ ?_)
    rw[HK0.out]
    exact⟨bq,k2,nm,ver,ac,fr,un,kn,wh,x,gi,⟨yo,ya,ys,yn,yd,yf,ym,yr,yy,yq,yk,yc⟩,zbc,hbq,zac,S4,D4,N0w,HY2,HO⟩
  | false =>
   rw[hw,if_neg (by simp),bind_ok] at HO2
   replace HO:=zH HO2
   have KB:=zH (aA (k:=k1) bi zah v S1.out.rd)
   rw[hw,if_neg (by simp)] at KB
   clear HO2
   go_wp2_with fail
   refine KB.out.mono ?_
   rintro _ v2 ⟨rfl,hkp,hrd⟩
   have hsp:=hkp.size
   have S2:=zH (S1.out.call hkp hrd)
   have D2:=zH (D1.out.call (by simp) hkp ND)
   have N0x:=zH (NodeA.keep hkp.size (fun j (hj:bq<j) hj2=>hkp.block j hj2 zac) (fun j hj _=>hj) _ _ N0.out)
   clear hkp hrd KB S1 D1 N0
   go_wp2_with fail
   refine Handed.intro 0 zah (HJ.out 0 _ _ ?_)
   rw[HK0.out]
   exact⟨bq,k1,nm,ver,ac,fr,un,kn,wh,x,aK pl,⟨1,at0,⟨#[]⟩,0,1,false,0,0,0,none,0,0⟩,zbc,hbq,zac,S2,D2,N0x,by rw[HAT.out];exact zH (oz _ _ _ _),HO⟩
 rw[HK0.out]
 clear HK0
 rintro a v ⟨bq,k1,nm,ver,ac,fr,un,kn,wh,x,gi,y,ha,hbq,hbv,S1,D1,N0,N1,HO⟩
 cases ha
 have ND:bq≠b:=zac
 have hcX:=(HC.out.at2.heap (S1.out.kp.block cb hcl zac)).c1
 have KFN:=zH (lF full pl v S1.out.rd)
 rw[<-HAT.out] at KFN
 have hLe:([]:List Value).length=0:=rfl
 clear hLe
 go_wp2_with fail
 clear hcX
 have KS:=zH (KFN.out)
 generalize kY full pl (ts.drop k1)=oo at KS HO
 refine KS.out.mono ?_
 cases oo with
 | er E q m =>
  rintro _ v7 ⟨k',rfl,hkp,hrd,hm⟩
  exact Cu
 | ok u7 r =>
  rintro _ v7 ⟨_,k7,rfl,rfl,hkp,hrd,rfl⟩
  have S7:=zH (S1.out.call hkp hrd)
  have D7x:=zH (D1.out.call (by simp) hkp ND)
  have N0y:=zH (NodeA.keep hkp.size (fun j (hj:bq<j) hj2=>hkp.block j hj2 zac) (fun j hj _=>hj) _ _ N0.out)
  have N1y:=zH (NodeA.keep hkp.size (fun j (hj:bq<j) hj2=>hkp.block j hj2 zac) (fun j hj _=>hj) _ _ N1.out)
  have hsz_v7:=hkp.size
  have HO2:=HO.out
  rw[bind_ok] at HO2
  replace HO:=zH HO2
  clear HO2 hkp hrd KS
  clear S1 D1 N0 N1 KFN
  obtain⟨LL,hLL⟩:∃LL:List Value,LL=[.string (bs nm),zI zL ver,zI zL kd,.string (bs ac),zI zL fr,zI zL un,zI zL kn,zI zL x.o,zI zL x.a,.string x.s,zI zL x.n,zI zL x.d,.bool x.f,zI zL x.m,zI zL x.r,zI zL x.y,.slice x.q x.k x.c,zI zL y.o,zI zL y.a,.string y.s,zI zL y.n,zI zL y.d,.bool y.f,zI zL y.m,zI zL y.r,zI zL y.y,.slice y.q y.k y.c,zI zL at0]:=⟨_,rfl⟩
  have hLn:LL.length=28:=by rw[hLL];rfl
  have hL1:∀u∈LL,u.oneCell'=true:=by rw[hLL];simp[Value.oneCell']
  have HRV:Hid (LL=rV (ag ts En) ⟨nm,ver,kdn,ac,fr,un,kn,wh,gi,pl⟩ x y):=by show _=_;rw[hLL,HKD.out,HAT.out];rfl
  have HBS:Hid (∀W:World,(Instr.buildSlice 24 1 #[(0,.agg LL.toArray)]).run Tryz.prog W = .ok (.slice (some ⟨W.heap.size,0,none⟩) 1 1) (W.alloc (.cells LL.toArray 49))):=by
   show ∀W,_
   intro W
   rw[hLL]
   exact kT _ _ _ _ _ _ _ _ _ _ _ _ _ _ _ _ _ _ _ _ _ _ _ _ _ _ _ _ W
  have D7:Hid (aH v7 bq LL):=by show aH _ _ _;rw[hLL];exact D7x.out
  clear D7x hLL
  have CV:Hid (Cx v7 base cb gx (ag ts En) ds rs vd (.slice q rs.length rc) ns):=HC.out.keep S7.out.kp.size (fun j hj hj2=>S7.out.kp.block j hj zce)
  have hsv7:=S7.out.kp.size
  have NDc:bq≠cb:=zac
  go_wp2_with fail
  have hcU:=(CV.out.at2).c1
  have NCB:cb≠v7.heap.size:=zac
  have hS:Hid (aH v7.drew bq LL):=D7
  refine wp_region_held (S:=fun w':World=>Hid (aH w' bq LL)) mixed ?_
  change wpAnyH _ _ _ _ _ _ _ _ v7.drew
  refine tk0 (v:=?_) zab zab zab (fun _ _ _ h=>h) (Or.inl ⟨by rfl,?_⟩) hS ?_
  rotate_left
  ·(intro w hSw;(try dsimp only at hSw);go_simp;try with_reducible rfl)
  simp only[Act.put,zA,zB,zC]
  refine tk1 (v:=?_) zab zab zab (fun _ _ _ h=>h) (Or.inl ⟨by rfl,?_⟩) hS ?_
  rotate_left
  ·(intro w hSw;(try dsimp only at hSw);go_simp;try with_reducible rfl)
  simp only[Act.put,zA,zB,zC]
  refine tk2 (v:=?_) zab zab zab (fun _ _ _ h=>h) (Or.inl ⟨by rfl,?_⟩) hS ?_
  rotate_left
  ·(intro w hSw;(try dsimp only at hSw);go_simp;try with_reducible rfl)
  simp only[Act.put,zA,zB,zC]
  refine tk3 (v:=?_) zab zab zab (fun _ _ _ h=>h) (Or.inl ⟨by rfl,?_⟩) hS ?_
  rotate_left
  ·(intro w hSw;(try dsimp only at hSw);go_simp;try with_reducible rfl)
  simp only[Act.put,zA,zB,zC]
  refine tk5 (v:= .agg LL.toArray) zab zab zab (fun _ _ _ h=>h) (Or.inl ⟨by rfl,?_⟩) hS ?_
  ·intro w hSw
   exact aY rfl rfl (ku w bq LL hLn (fun j v hv=>(hSw.out j v hv).1))
  simp only[Act.put,zA,zB,zC]
  refine wpAnyH_ready (rs:=[4,6]) zab (by simp) (st4 (fun K hK=>?_) (st6 (fun K hK=>?_) AllReadyH.nil))
  ·go_simp
   refine hK.out _ _ ?_ (fun hHeld=>?_)
   ·exact hS
   clear hK K
   try simp only[Act.put,zA,zB,zC]
   refine wpAnyH_ready (rs:=[6]) zab (by simp) (st6 (fun K hK=>?_) AllReadyH.nil)
   refine(if_pos zab).mpr ?_
   refine kg (y:= .agg LL.toArray) rfl rfl (HBS.out _) ?_
   rw[show v7.drew.alloc (.cells LL.toArray 49)=(v7.alloc (.cells LL.toArray 49)).drew from rfl,show v7.drew.heap.size=v7.heap.size from rfl]
   refine hK.out _ _ ?_ (fun hHeld=>?_)
   ·exact AO
   clear hK K
   try simp only[Act.put,zA,zB,zC]
   exact zz24
  ·refine(if_pos zab).mpr ?_
   refine kg (y:= .agg LL.toArray) rfl rfl (HBS.out _) ?_
   rw[show v7.drew.alloc (.cells LL.toArray 49)=(v7.alloc (.cells LL.toArray 49)).drew from rfl,show v7.drew.heap.size=v7.heap.size from rfl]
   refine hK.out _ _ ?_ (fun hHeld=>?_)
   ·exact AO
   clear hK K
   try simp only[Act.put,zA,zB,zC]
   have hcU2:(v7.alloc (.cells LL.toArray 49)).drew.cell? ⟨cb,1,none⟩=some (.slice q rs.length rc):=(((Below.refl v7.heap.size v7).alloc (Nat.le_refl _) (.cells LL.toArray 49)).drew.cell (p:=⟨cb,1,none⟩) (by show cb<_;omega)).trans hcU
   refine wpAnyH_ready (rs:=[4]) zab (by simp) (st4 (fun K hK=>?_) AllReadyH.nil)
   go_simp
   refine hK.out _ _ ?_ (fun hHeld=>?_)
   ·exact AO
   clear hK K
   try simp only[Act.put,zA,zB,zC]
   clear hcU2
   exact zz24
end
end Go.Proofs.YtnjfolljbfkojaaGreatDoor
