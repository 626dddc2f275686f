import Derived.Test.YtnjfolljbfkojaaGreatDoorMAJ
import Derived.Test.YtnjfolljbfkojaaGreatDoorMAQ
set_option maxRecDepth 100000
set_option maxHeartbeats 20000000
namespace Go.Proofs.YtnjfolljbfkojaaGreatDoor
open Go.Value renaming int→zI
open Go.IntKind renaming i64→zL
open Go.Lib renaming hid→zH
open Go.RowKit Lx Pa
section
variable {b cap qb En mb k:Nat} {p:Option Addr} {ts:List Tok}
theorem Ee (o:Out Tree)(w:World)(h:Rd w b p cap qb ts En mb k)(HK:∀w,Rd w b p cap qb ts En mb k->Calls Tryz.prog 83 #[.pointer (some ⟨b,0,none⟩),zI zL 1,.func (.func 84) #[.pointer (some ⟨b,0,none⟩)] #[]] w fun e w'=>ak w b p cap qb ts En mb (vX w.heap.size (ag ts En)) o e w') :
  Calls Tryz.prog 68 #[.pointer (some ⟨b,0,none⟩)] w fun e w'=>ak w b p cap qb ts En mb (vX w.heap.size (ag ts En)) o e w':=by
 have hmf:∀(fn:Fn) (first cap:Array Value) (w:World),(Instr.makeFunc fn first cap).run Tryz.prog w = .ok (.func fn first cap) w:=fun _ _ _ _=>rfl
 have KR:=zH HK
 clear HK
 have S0:=zH ((Sx.start h).alloc (.cells #[zI zL 0,zI zL 0,.string ⟨#[]⟩,zI zL 0,zI zL 0,.bool false,zI zL 0,zI zL 0,zI zL 0,.slice none 0 0] 36))
 have R0:=zH (B10.new w (zI zL 0) (zI zL 0) (.string ⟨#[]⟩) (zI zL 0) (zI zL 0) (.bool false) (zI zL 0) (zI zL 0) (zI zL 0) (.slice none 0 0) 36)
 have NB:w.heap.size≠b:=zbd
 have B0:(w.alloc (.cells #[zI zL 0,zI zL 0,.string ⟨#[]⟩,zI zL 0,zI zL 0,.bool false,zI zL 0,zI zL 0,zI zL 0,.slice none 0 0] 36)).heap.size=w.heap.size+1:=by simp
 clear h
 go_enter Tryz.func68,Tryz.ntmps68
 go_wp2_with fail
 change Calls _ _ _ (w.alloc (.cells #[zI zL 0,zI zL 0,.string ⟨#[]⟩,zI zL 0,zI zL 0,.bool false,zI zL 0,zI zL 0,zI zL 0,.slice none 0 0] 36)) _
 generalize w.alloc (.cells #[zI zL 0,zI zL 0,.string ⟨#[]⟩,zI zL 0,zI zL 0,.bool false,zI zL 0,zI zL 0,zI zL 0,.slice none 0 0] 36)=V at *
 refine(KR.out _ S0.out.rd).mono ?_
 cases o with
 | er E q m =>
  rintro _ v2 ⟨k',rfl,hkp,hrd,hm⟩
  exact EP
 | ok t r =>
  rintro _ v2 ⟨_,k',rfl,⟨⟨xo,xa,xs,xn,xd,xf,xm,xr,xy,xq,xk,xc⟩,rfl,hx⟩,hkp,hrd,rfl⟩
  have S2:=zH (S0.out.call hkp hrd)
  have R2:=zH (R0.out.call hkp NB)
  have HN:=zH hx
  clear hkp hrd hx
  unfold nv
  obtain⟨r0,r1,r2,r3,r4,r5,r6,r7,r8,r9,q0,q1,q2,q3,q4,q5,q6,q7,q8,q9⟩:=R2.out
  go_wp2_with fail
  refine(?_:∀F:World,B10 F w.heap.size (zI zL xo) (zI zL xa) (.string xs) (zI zL xn) (zI zL xd) (.bool xf) (zI zL xm) (zI zL xr) (zI zL xy) (.slice xq xk xc)->Sx w F b p cap qb ts En mb k'->Kfr V.heap.size v2 F->bodyPost _ _ _ _ _ F) _ (R2.out.put _ _ _ _ _ _ _ _ _ _) ?_ ?_
  ·intro F hF hS hK
   obtain⟨y0,y1,y2,y3,y4,y5,y6,y7,y8,y9,-,-,-,-,-,-,-,-,-,-⟩:=hF
   exact bodyPost_ret (v:= .agg #[zI zL xo,zI zL xa,.string xs,zI zL xn,zI zL xd,.bool xf,zI zL xm,zI zL xr,zI zL xy,.slice xq xk xc]) (by simp[results,Tryz.results68,go_sem,y0,y1,y2,y3,y4,y5,y6,y7,y8,y9]) rfl (ak.ok rfl ⟨⟨xo,xa,xs,xn,xd,xf,xm,xr,xy,xq,xk,xc⟩,rfl,ah.keep hK zac _ _ HN.out⟩ hS)
  ·exact Ac
  ·exact Cz
theorem BP (o:Out Tree)(w:World)(h:Rd w b p cap qb ts En mb k)(HK:∀w,Rd w b p cap qb ts En mb k->Calls Tryz.prog 83 #[.pointer (some ⟨b,0,none⟩),zI zL 2,.func (.func 99) #[.pointer (some ⟨b,0,none⟩)] #[]] w fun e w'=>ak w b p cap qb ts En mb (vX w.heap.size (ag ts En)) o e w') :
  Calls Tryz.prog 84 #[.pointer (some ⟨b,0,none⟩)] w fun e w'=>ak w b p cap qb ts En mb (vX w.heap.size (ag ts En)) o e w':=by
 have hmf:∀(fn:Fn) (first cap:Array Value) (w:World),(Instr.makeFunc fn first cap).run Tryz.prog w = .ok (.func fn first cap) w:=fun _ _ _ _=>rfl
 have KR:=zH HK
 clear HK
 have S0:=zH ((Sx.start h).alloc (.cells #[zI zL 0,zI zL 0,.string ⟨#[]⟩,zI zL 0,zI zL 0,.bool false,zI zL 0,zI zL 0,zI zL 0,.slice none 0 0] 36))
 have R0:=zH (B10.new w (zI zL 0) (zI zL 0) (.string ⟨#[]⟩) (zI zL 0) (zI zL 0) (.bool false) (zI zL 0) (zI zL 0) (zI zL 0) (.slice none 0 0) 36)
 have NB:w.heap.size≠b:=zbd
 have B0:(w.alloc (.cells #[zI zL 0,zI zL 0,.string ⟨#[]⟩,zI zL 0,zI zL 0,.bool false,zI zL 0,zI zL 0,zI zL 0,.slice none 0 0] 36)).heap.size=w.heap.size+1:=by simp
 clear h
 go_enter Tryz.func84,Tryz.ntmps84
 go_wp2_with fail
 change Calls _ _ _ (w.alloc (.cells #[zI zL 0,zI zL 0,.string ⟨#[]⟩,zI zL 0,zI zL 0,.bool false,zI zL 0,zI zL 0,zI zL 0,.slice none 0 0] 36)) _
 generalize w.alloc (.cells #[zI zL 0,zI zL 0,.string ⟨#[]⟩,zI zL 0,zI zL 0,.bool false,zI zL 0,zI zL 0,zI zL 0,.slice none 0 0] 36)=V at *
 refine(KR.out _ S0.out.rd).mono ?_
 cases o with
 | er E q m =>
  rintro _ v2 ⟨k',rfl,hkp,hrd,hm⟩
  exact EP
 | ok t r =>
  rintro _ v2 ⟨_,k',rfl,⟨⟨xo,xa,xs,xn,xd,xf,xm,xr,xy,xq,xk,xc⟩,rfl,hx⟩,hkp,hrd,rfl⟩
  have S2:=zH (S0.out.call hkp hrd)
  have R2:=zH (R0.out.call hkp NB)
  have HN:=zH hx
  clear hkp hrd hx
  unfold nv
  obtain⟨r0,r1,r2,r3,r4,r5,r6,r7,r8,r9,q0,q1,q2,q3,q4,q5,q6,q7,q8,q9⟩:=R2.out
  go_wp2_with fail
  refine(?_:∀F:World,B10 F w.heap.size (zI zL xo) (zI zL xa) (.string xs) (zI zL xn) (zI zL xd) (.bool xf) (zI zL xm) (zI zL xr) (zI zL xy) (.slice xq xk xc)->Sx w F b p cap qb ts En mb k'->Kfr V.heap.size v2 F->bodyPost _ _ _ _ _ F) _ (R2.out.put _ _ _ _ _ _ _ _ _ _) ?_ ?_
  ·intro F hF hS hK
   obtain⟨y0,y1,y2,y3,y4,y5,y6,y7,y8,y9,-,-,-,-,-,-,-,-,-,-⟩:=hF
   exact bodyPost_ret (v:= .agg #[zI zL xo,zI zL xa,.string xs,zI zL xn,zI zL xd,.bool xf,zI zL xm,zI zL xr,zI zL xy,.slice xq xk xc]) (by simp[results,Tryz.results84,go_sem,y0,y1,y2,y3,y4,y5,y6,y7,y8,y9]) rfl (ak.ok rfl ⟨⟨xo,xa,xs,xn,xd,xf,xm,xr,xy,xq,xk,xc⟩,rfl,ah.keep hK zac _ _ HN.out⟩ hS)
  ·exact Ac
  ·exact Cz
theorem A8 (o:Out Tree)(w:World)(h:Rd w b p cap qb ts En mb k)(HK:∀w,Rd w b p cap qb ts En mb k->Calls Tryz.prog 83 #[.pointer (some ⟨b,0,none⟩),zI zL 4,.func (.func 130) #[.pointer (some ⟨b,0,none⟩)] #[]] w fun e w'=>ak w b p cap qb ts En mb (vX w.heap.size (ag ts En)) o e w') :
  Calls Tryz.prog 120 #[.pointer (some ⟨b,0,none⟩)] w fun e w'=>ak w b p cap qb ts En mb (vX w.heap.size (ag ts En)) o e w':=by
 have hmf:∀(fn:Fn) (first cap:Array Value) (w:World),(Instr.makeFunc fn first cap).run Tryz.prog w = .ok (.func fn first cap) w:=fun _ _ _ _=>rfl
 have KR:=zH HK
 clear HK
 have S0:=zH ((Sx.start h).alloc (.cells #[zI zL 0,zI zL 0,.string ⟨#[]⟩,zI zL 0,zI zL 0,.bool false,zI zL 0,zI zL 0,zI zL 0,.slice none 0 0] 36))
 have R0:=zH (B10.new w (zI zL 0) (zI zL 0) (.string ⟨#[]⟩) (zI zL 0) (zI zL 0) (.bool false) (zI zL 0) (zI zL 0) (zI zL 0) (.slice none 0 0) 36)
 have NB:w.heap.size≠b:=zbd
 have B0:(w.alloc (.cells #[zI zL 0,zI zL 0,.string ⟨#[]⟩,zI zL 0,zI zL 0,.bool false,zI zL 0,zI zL 0,zI zL 0,.slice none 0 0] 36)).heap.size=w.heap.size+1:=by simp
 clear h
 go_enter Tryz.func120,Tryz.ntmps120
 go_wp2_with fail
 change Calls _ _ _ (w.alloc (.cells #[zI zL 0,zI zL 0,.string ⟨#[]⟩,zI zL 0,zI zL 0,.bool false,zI zL 0,zI zL 0,zI zL 0,.slice none 0 0] 36)) _
 generalize w.alloc (.cells #[zI zL 0,zI zL 0,.string ⟨#[]⟩,zI zL 0,zI zL 0,.bool false,zI zL 0,zI zL 0,zI zL 0,.slice none 0 0] 36)=V at *
 refine(KR.out _ S0.out.rd).mono ?_
 cases o with
 | er E q m =>
  rintro _ v2 ⟨k',rfl,hkp,hrd,hm⟩
  exact EP
 | ok t r =>
  rintro _ v2 ⟨_,k',rfl,⟨⟨xo,xa,xs,xn,xd,xf,xm,xr,xy,xq,xk,xc⟩,rfl,hx⟩,hkp,hrd,rfl⟩
  have S2:=zH (S0.out.call hkp hrd)
  have R2:=zH (R0.out.call hkp NB)
  have HN:=zH hx
  clear hkp hrd hx
  unfold nv
  obtain⟨r0,r1,r2,r3,r4,r5,r6,r7,r8,r9,q0,q1,q2,q3,q4,q5,q6,q7,q8,q9⟩:=R2.out
  go_wp2_with fail
  refine(?_:∀F:World,B10 F w.heap.size (zI zL xo) (zI zL xa) (.string xs) (zI zL xn) (zI zL xd) (.bool xf) (zI zL xm) (zI zL xr) (zI zL xy) (.slice xq xk xc)->Sx w F b p cap qb ts En mb k'->Kfr V.heap.size v2 F->bodyPost _ _ _ _ _ F) _ (R2.out.put _ _ _ _ _ _ _ _ _ _) ?_ ?_
  ·intro F hF hS hK
   obtain⟨y0,y1,y2,y3,y4,y5,y6,y7,y8,y9,-,-,-,-,-,-,-,-,-,-⟩:=hF
   exact bodyPost_ret (v:= .agg #[zI zL xo,zI zL xa,.string xs,zI zL xn,zI zL xd,.bool xf,zI zL xm,zI zL xr,zI zL xy,.slice xq xk xc]) (by simp[results,Tryz.results120,go_sem,y0,y1,y2,y3,y4,y5,y6,y7,y8,y9]) rfl (ak.ok rfl ⟨⟨xo,xa,xs,xn,xd,xf,xm,xr,xy,xq,xk,xc⟩,rfl,ah.keep hK zac _ _ HN.out⟩ hS)
  ·exact Ac
  ·exact Cz
theorem xW (o:Out Tree)(w:World)(h:Rd w b p cap qb ts En mb k)(HK:∀w,Rd w b p cap qb ts En mb k->Calls Tryz.prog 83 #[.pointer (some ⟨b,0,none⟩),zI zL 5,.func (.func 138) #[.pointer (some ⟨b,0,none⟩)] #[]] w fun e w'=>ak w b p cap qb ts En mb (vX w.heap.size (ag ts En)) o e w') :
  Calls Tryz.prog 130 #[.pointer (some ⟨b,0,none⟩)] w fun e w'=>ak w b p cap qb ts En mb (vX w.heap.size (ag ts En)) o e w':=by
 have hmf:∀(fn:Fn) (first cap:Array Value) (w:World),(Instr.makeFunc fn first cap).run Tryz.prog w = .ok (.func fn first cap) w:=fun _ _ _ _=>rfl
 have KR:=zH HK
 clear HK
 have S0:=zH ((Sx.start h).alloc (.cells #[zI zL 0,zI zL 0,.string ⟨#[]⟩,zI zL 0,zI zL 0,.bool false,zI zL 0,zI zL 0,zI zL 0,.slice none 0 0] 36))
 have R0:=zH (B10.new w (zI zL 0) (zI zL 0) (.string ⟨#[]⟩) (zI zL 0) (zI zL 0) (.bool false) (zI zL 0) (zI zL 0) (zI zL 0) (.slice none 0 0) 36)
 have NB:w.heap.size≠b:=zbd
 have B0:(w.alloc (.cells #[zI zL 0,zI zL 0,.string ⟨#[]⟩,zI zL 0,zI zL 0,.bool false,zI zL 0,zI zL 0,zI zL 0,.slice none 0 0] 36)).heap.size=w.heap.size+1:=by simp
 clear h
 go_enter Tryz.func130,Tryz.ntmps130
 go_wp2_with fail
 change Calls _ _ _ (w.alloc (.cells #[zI zL 0,zI zL 0,.string ⟨#[]⟩,zI zL 0,zI zL 0,.bool false,zI zL 0,zI zL 0,zI zL 0,.slice none 0 0] 36)) _
 generalize w.alloc (.cells #[zI zL 0,zI zL 0,.string ⟨#[]⟩,zI zL 0,zI zL 0,.bool false,zI zL 0,zI zL 0,zI zL 0,.slice none 0 0] 36)=V at *
 refine(KR.out _ S0.out.rd).mono ?_
 cases o with
 | er E q m =>
  rintro _ v2 ⟨k',rfl,hkp,hrd,hm⟩
  exact EP
 | ok t r =>
  rintro _ v2 ⟨_,k',rfl,⟨⟨xo,xa,xs,xn,xd,xf,xm,xr,xy,xq,xk,xc⟩,rfl,hx⟩,hkp,hrd,rfl⟩
  have S2:=zH (S0.out.call hkp hrd)
  have R2:=zH (R0.out.call hkp NB)
  have HN:=zH hx
  clear hkp hrd hx
  unfold nv
  obtain⟨r0,r1,r2,r3,r4,r5,r6,r7,r8,r9,q0,q1,q2,q3,q4,q5,q6,q7,q8,q9⟩:=R2.out
  go_wp2_with fail
  refine(?_:∀F:World,B10 F w.heap.size (zI zL xo) (zI zL xa) (.string xs) (zI zL xn) (zI zL xd) (.bool xf) (zI zL xm) (zI zL xr) (zI zL xy) (.slice xq xk xc)->Sx w F b p cap qb ts En mb k'->Kfr V.heap.size v2 F->bodyPost _ _ _ _ _ F) _ (R2.out.put _ _ _ _ _ _ _ _ _ _) ?_ ?_
  ·intro F hF hS hK
   obtain⟨y0,y1,y2,y3,y4,y5,y6,y7,y8,y9,-,-,-,-,-,-,-,-,-,-⟩:=hF
   exact bodyPost_ret (v:= .agg #[zI zL xo,zI zL xa,.string xs,zI zL xn,zI zL xd,.bool xf,zI zL xm,zI zL xr,zI zL xy,.slice xq xk xc]) (by simp[results,Tryz.results130,go_sem,y0,y1,y2,y3,y4,y5,y6,y7,y8,y9]) rfl (ak.ok rfl ⟨⟨xo,xa,xs,xn,xd,xf,xm,xr,xy,xq,xk,xc⟩,rfl,ah.keep hK zac _ _ HN.out⟩ hS)
  ·exact Ac
  ·exact Cz
end
theorem om (ts:List Tok)(p:Option Addr)(b off cap n k En:Nat)(O:Int)(w:World)(hS:SlT w p b off n ts)(hwf:Wf ts)(hkt:k<n)(h1:isN (ts.drop k)=false)(h2:isA (ts.drop k)=false)(h3:isW bB (ts.drop k)=true) :
  Calls Tryz.prog 71 #[.agg #[.slice p n cap,zI zL k,zI zL En,zI zL 0,zI zL O]] w fun e w'=>bO w ts p n cap En (k+1:Nat) 0 O (some (.mk 17 (n-k) [] 0 0 1 [])) e w':=by
 have hmx:=hS.max
 have hl:=hS.ln
 have hk1:IntKind.i64.wrap ((k:Int)+1)=((k+1:Nat):Int):=zal
 have KO:=zH (fun w hS=>aj ts p b off cap n k En 0 O w hS zac)
 have KN:=zH (fun w hS=>bR ts p b off cap n k En O w hS)
 rw[h1] at KN
 have KA:=zH (fun w hS=>bZ ts p b off cap n k En O w hS hwf)
 rw[h2] at KA
 have KT:=zH (fun w hS=>bE bB ts p b off cap n k En O w hS)
 rw[h3] at KT
 have HS:=zH hS
 have HP:Hid (∀w',RowKit.Below w.heap.size w w'->bO w ts p n cap En ((k:Int)+1) 0 O (some (.mk 17 (n-k) [] 0 0 1 [])) (.returned (.tuple #[.agg #[zI zL 17,zI zL (ag ts En (n-k)),.string ⟨#[]⟩,zI zL 0,zI zL 0,.bool false,zI zL 0,zI zL 0,zI zL 0,.slice none 0 0],.agg #[.slice p n cap,zI zL ((k:Int)+1),zI zL En,zI zL 0,zI zL O]])) w'):=fun w' hb =>
  ⟨⟨17,ag ts En (n-k),⟨#[]⟩,0,0,false,0,0,0,none,0,0⟩,rfl,fun u hu=>by cases hu;exact bP w' w.heap.size (ag ts En) 17 (n-k) [] 0 0 1,hb⟩
 generalize (some (Tree.mk 17 (n-k) [] 0 0 1 []))=tt at *
 generalize ag ts En (n-k)=at0 at *
 clear h1 h2 h3 hS hwf
 obtain⟨W3,hW3⟩:∃W3,W3=((w.alloc (.cells #[.slice p n cap,zI zL k,zI zL En,zI zL 0,zI zL O] 62)).alloc (.cells #[zI zL 0,zI zL 0,.string ⟨#[]⟩,zI zL 0,zI zL 0,.bool false,zI zL 0,zI zL 0,zI zL 0,.slice none 0 0] 36)).alloc (.cells #[.slice none 0 0,zI zL 0,zI zL 0,zI zL 0,zI zL 0] 62):=⟨_,rfl⟩
 have F:=zH (Fr.new w p n cap k En 0 O 62 36)
 rw[<-hW3] at F
 go_enter Tryz.func71,Tryz.ntmps71
 go_wp2_with fail
 rw[<-hW3]
 clear hW3
 refine(KO.out _ (HS.out.bel F.out.B)).mono ?_
 rintro _ v1 ⟨rfl,hb⟩
 replace F:=zH (F.out.bel hb)
 clear hb
 obtain⟨c0,c1,c2,c3,c4,f0,f1,f2,f3,f4⟩:=F.out.A
 go_wp2_with fail
 refine(KN.out _ (HS.out.bel F.out.B)).mono ?_
 rintro _ v2 ⟨rfl,hb⟩
 replace F:=zH (F.out.bel hb)
 clear c0 c1 c2 c3 c4 f0 f1 f2 f3 f4
 clear hb
 obtain⟨c0,c1,c2,c3,c4,f0,f1,f2,f3,f4⟩:=F.out.A
 go_wp2_with fail
 refine(KA.out _ (HS.out.bel F.out.B)).mono ?_
 rintro _ v3 ⟨rfl,hb⟩
 replace F:=zH (F.out.bel hb)
 clear c0 c1 c2 c3 c4 f0 f1 f2 f3 f4
 clear hb
 obtain⟨c0,c1,c2,c3,c4,f0,f1,f2,f3,f4⟩:=F.out.A
 go_wp2_with fail
 refine(KT.out _ (HS.out.bel F.out.B)).mono ?_
 rintro _ v4 ⟨rfl,hb⟩
 replace F:=zH (F.out.bel hb)
 clear c0 c1 c2 c3 c4 f0 f1 f2 f3 f4
 clear hb
 obtain⟨c0,c1,c2,c3,c4,f0,f1,f2,f3,f4⟩:=F.out.A
 go_wp2_with fail
 replace F:=zH (F.out.inc ((k:Int)+1))
 clear c0 c1 c2 c3 c4 f0 f1 f2 f3 f4
 generalize v4.setCell ⟨w.heap.size,1,none⟩ (zI zL ((k:Int)+1))=V at *
 obtain⟨c0,c1,c2,c3,c4,-,-,-,-,-⟩:=F.out.A
 obtain⟨n0,n1,n2,n3,n4,n5,n6,n7,n8,n9,m0,m1,m2,m3,m4,m5,m6,m7,m8,m9⟩:=F.out.N
 obtain⟨e0,e1,e2,e3,e4,g0,g1,g2,g3,g4⟩:=F.out.R
 have BV:=zH F.out.B
 have hS:(V.drew.cell? ⟨w.heap.size,0,none⟩=some (.slice p n cap)/\V.drew.cell? ⟨w.heap.size,1,none⟩=some (zI zL ((k:Int)+1))/\V.drew.cell? ⟨w.heap.size,2,none⟩=some (zI zL En)/\V.drew.cell? ⟨w.heap.size,3,none⟩=some (zI zL 0)/\V.drew.cell? ⟨w.heap.size,4,none⟩=some (zI zL O)):=⟨c0,c1,c2,c3,c4⟩
 refine wp_region_held (S:=fun w':World=>(w'.cell? ⟨w.heap.size,0,none⟩=some (.slice p n cap)/\w'.cell? ⟨w.heap.size,1,none⟩=some (zI zL ((k:Int)+1))/\w'.cell? ⟨w.heap.size,2,none⟩=some (zI zL En)/\w'.cell? ⟨w.heap.size,3,none⟩=some (zI zL 0)/\w'.cell? ⟨w.heap.size,4,none⟩=some (zI zL O))) mixed ?_
 change wpAnyH _ _ _ _ _ _ _ _ V.drew
 refine tk0 (v:=?_) zab zab zab (fun _ _ _ h=>h) (Or.inl ⟨by rfl,?_⟩) hS ?_
 rotate_left
 ·(intro w hSw;(try dsimp only at hSw);go_simp;try with_reducible rfl)
 simp only[Act.put,zA,zB,zC]
 refine tk1 (v:=?_) zab zab zab (fun _ _ _ h=>h) (Or.inl ⟨by rfl,?_⟩) hS ?_
 rotate_left
 ·(intro w hSw;(try dsimp only at hSw);go_simp;try with_reducible rfl)
 simp only[Act.put,zA,zB,zC]
 refine tk2 (v:=?_) zab zab zab (fun _ _ _ h=>h) (Or.inl ⟨by rfl,?_⟩) hS ?_
 rotate_left
 ·(intro w hSw;(try dsimp only at hSw);go_simp;try with_reducible rfl)
 simp only[Act.put,zA,zB,zC]
 refine wpAnyH_ready (rs:=[3]) zab (by simp) (st3 (fun K hK=>?_) AllReadyH.nil)
 go_simp
 refine hK.out _ _ ?_ (fun hHeld=>?_)
 ·exact(by refine⟨?_,?_,?_,?_,?_⟩<;>simp[go_sem,c0,c1,c2,c3,c4])
 clear hK K
 try simp only[Act.put,zA,zB,zC]
 refine wpAnyH_ready (rs:=[4]) zab (by simp) (st4 (fun K hK=>?_) AllReadyH.nil)
 go_simp
 refine hK.out _ _ ?_ (fun hHeld=>?_)
 ·exact(by refine⟨?_,?_,?_,?_,?_⟩<;>simp[go_sem,c0,c1,c2,c3,c4])
 clear hK K
 try simp only[Act.put,zA,zB,zC]
 refine wpAnyH_done zab ?_ _
 go_wp2_with fail
 exact bodyPost_ret (v:= .tuple #[.agg #[zI zL 17,zI zL at0,.string ⟨#[]⟩,zI zL 0,zI zL 0,.bool false,zI zL 0,zI zL 0,zI zL 0,.slice none 0 0],.agg #[.slice p n cap,zI zL ((k:Int)+1),zI zL En,zI zL 0,zI zL O]]) zap rfl (HP.out _ zae)
theorem sU (ts:List Tok)(p:Option Addr)(b off cap n k En:Nat)(O:Int)(w:World)(hS:SlT w p b off n ts)(hwf:Wf ts)(hkt:k<n)(h1:isN (ts.drop k)=false)(h2:isA (ts.drop k)=false)(h3:isW bB (ts.drop k)=false)(h4:isW sLp (ts.drop k)=true)(k2 E2 O2 k3 E3 O3:Int)(tt:Option Tree)
  (KX:∀w1,SlT w1 p b off n ts->Calls Tryz.prog 26 #[.agg #[.slice p n cap,zI zL (k+1:Nat),zI zL En,zI zL 0,zI zL O]] w1 fun e w'=>bO w1 ts p n cap En k2 E2 O2 tt e w')
  (KD:∀w1,SlT w1 p b off n ts->Calls Tryz.prog 40 #[.agg #[.slice p n cap,zI zL k2,zI zL En,zI zL E2,zI zL O2],.string (bs sRp)] w1 fun e w'=>e = .returned (.agg #[.slice p n cap,zI zL k3,zI zL En,zI zL E3,zI zL O3])/\RowKit.Below w1.heap.size w1 w') :
  Calls Tryz.prog 71 #[.agg #[.slice p n cap,zI zL k,zI zL En,zI zL 0,zI zL O]] w fun e w'=>bO w ts p n cap En k3 E3 O3 tt e w':=by
 have hmx:=hS.max
 have hl:=hS.ln
 have hk1:IntKind.i64.wrap ((k:Int)+1)=((k+1:Nat):Int):=zal
 have KO:=zH (fun w hS=>aj ts p b off cap n k En 0 O w hS zac)
 have KN:=zH (fun w hS=>bR ts p b off cap n k En O w hS)
 rw[h1] at KN
 have KA:=zH (fun w hS=>bZ ts p b off cap n k En O w hS hwf)
 rw[h2] at KA
 have KT:=zH (fun w hS=>bE bB ts p b off cap n k En O w hS)
 rw[h3] at KT
 have KL:=zH (fun w hS=>bE sLp ts p b off cap n k En O w hS)
 rw[h4] at KL
 have HX:=zH KX
 have HD:=zH KD
 have HS:=zH hS
 generalize ag ts En (n-k)=at0 at *
 clear h1 h2 h3 h4 hS hwf KX KD
 obtain⟨W3,hW3⟩:∃W3,W3=((w.alloc (.cells #[.slice p n cap,zI zL k,zI zL En,zI zL 0,zI zL O] 62)).alloc (.cells #[zI zL 0,zI zL 0,.string ⟨#[]⟩,zI zL 0,zI zL 0,.bool false,zI zL 0,zI zL 0,zI zL 0,.slice none 0 0] 36)).alloc (.cells #[.slice none 0 0,zI zL 0,zI zL 0,zI zL 0,zI zL 0] 62):=⟨_,rfl⟩
 have F:=zH (Fr.new w p n cap k En 0 O 62 36)
 rw[<-hW3] at F
 go_enter Tryz.func71,Tryz.ntmps71
 go_wp2_with fail
 rw[<-hW3]
 clear hW3
 refine(KO.out _ (HS.out.bel F.out.B)).mono ?_
 rintro _ v5 ⟨rfl,hb⟩
 replace F:=zH (F.out.bel hb)
 clear hb
 obtain⟨c0,c1,c2,c3,c4,f0,f1,f2,f3,f4⟩:=F.out.A
 go_wp2_with fail
 refine(KN.out _ (HS.out.bel F.out.B)).mono ?_
 rintro _ v6 ⟨rfl,hb⟩
 replace F:=zH (F.out.bel hb)
 clear c0 c1 c2 c3 c4 f0 f1 f2 f3 f4
 clear hb
 obtain⟨c0,c1,c2,c3,c4,f0,f1,f2,f3,f4⟩:=F.out.A
 go_wp2_with fail
 refine(KA.out _ (HS.out.bel F.out.B)).mono ?_
 rintro _ v7 ⟨rfl,hb⟩
 replace F:=zH (F.out.bel hb)
 clear c0 c1 c2 c3 c4 f0 f1 f2 f3 f4
 clear hb
 obtain⟨c0,c1,c2,c3,c4,f0,f1,f2,f3,f4⟩:=F.out.A
 go_wp2_with fail
 refine(KT.out _ (HS.out.bel F.out.B)).mono ?_
 rintro _ v8 ⟨rfl,hb⟩
 replace F:=zH (F.out.bel hb)
 clear c0 c1 c2 c3 c4 f0 f1 f2 f3 f4
 clear hb
 obtain⟨c0,c1,c2,c3,c4,f0,f1,f2,f3,f4⟩:=F.out.A
 go_wp2_with fail
 refine(KL.out _ (HS.out.bel F.out.B)).mono ?_
 rintro _ v9 ⟨rfl,hb⟩
 replace F:=zH (F.out.bel hb)
 clear c0 c1 c2 c3 c4 f0 f1 f2 f3 f4
 clear hb
 obtain⟨c0,c1,c2,c3,c4,f0,f1,f2,f3,f4⟩:=F.out.A
 go_wp2_with fail
 replace F:=zH (F.out.inc ((k:Int)+1))
 clear c0 c1 c2 c3 c4 f0 f1 f2 f3 f4
 generalize v9.setCell ⟨w.heap.size,1,none⟩ (zI zL ((k:Int)+1))=V at *
 obtain⟨c0,c1,c2,c3,c4,-,-,-,-,-⟩:=F.out.A
 refine(HX.out _ (HS.out.bel F.out.B)).mono ?_
 rintro _ v ⟨⟨xo,xa,xs,xn,xd,xf,xm,xr,xy,xq,xk,xc⟩,rfl,hn,hb⟩
 have hV:w.heap.size+2<V.heap.size:=World.block_lt_of_cell? _ _ F.out.R.c0
 have hVv:=hb.size
 replace F:=zH (F.out.bel hb)
 have HN:=zH hn
 clear hb hn c0 c1 c2 c3 c4
 go_wp2_with fail
 have ha:=(Below.refl v.heap.size v).alloc (Nat.le_refl _) (.cells #[zI zL xo,zI zL xa,.string xs,zI zL xn,zI zL xd,.bool xf,zI zL xm,zI zL xr,zI zL xy,.slice xq xk xc] 36)
 have hb2:=(Below.refl (v.alloc (.cells #[zI zL xo,zI zL xa,.string xs,zI zL xn,zI zL xd,.bool xf,zI zL xm,zI zL xr,zI zL xy,.slice xq xk xc] 36)).heap.size (v.alloc (.cells #[zI zL xo,zI zL xa,.string xs,zI zL xn,zI zL xd,.bool xf,zI zL xm,zI zL xr,zI zL xy,.slice xq xk xc] 36))).alloc (Nat.le_refl _) (.cells #[.slice p n cap,zI zL k2,zI zL En,zI zL E2,zI zL O2] 62)
 replace HN:Hid (∀u,tt=some u->ah ((v.alloc (.cells #[zI zL xo,zI zL xa,.string xs,zI zL xn,zI zL xd,.bool xf,zI zL xm,zI zL xr,zI zL xy,.slice xq xk xc] 36)).alloc (.cells #[.slice p n cap,zI zL k2,zI zL En,zI zL E2,zI zL O2] 62)) V.heap.size (ag ts En) u ⟨xo,xa,xs,xn,xd,xf,xm,xr,xy,xq,xk,xc⟩):=fun u hu=>ah.bel hb2 _ _ (ah.bel ha _ _ (HN.out u hu))
 replace F:=zH ((F.out.bel ha).bel hb2)
 have X:=zH ((B10.new v (zI zL xo) (zI zL xa) (.string xs) (zI zL xn) (zI zL xd) (.bool xf) (zI zL xm) (zI zL xr) (zI zL xy) (.slice xq xk xc) 36).bel hb2)
 have Y:=zH (B5.new (v.alloc (.cells #[zI zL xo,zI zL xa,.string xs,zI zL xn,zI zL xd,.bool xf,zI zL xm,zI zL xr,zI zL xy,.slice xq xk xc] 36)) (.slice p n cap) (zI zL k2) (zI zL En) (zI zL E2) (zI zL O2) 62)
 rw[show(v.alloc (.cells #[zI zL xo,zI zL xa,.string xs,zI zL xn,zI zL xd,.bool xf,zI zL xm,zI zL xr,zI zL xy,.slice xq xk xc] 36)).heap.size=v.heap.size+1 by simp] at Y
 clear ha hb2
 generalize ((v.alloc (.cells #[zI zL xo,zI zL xa,.string xs,zI zL xn,zI zL xd,.bool xf,zI zL xm,zI zL xr,zI zL xy,.slice xq xk xc] 36)).alloc (.cells #[.slice p n cap,zI zL k2,zI zL En,zI zL E2,zI zL O2] 62))=U at *
 obtain⟨x0,x1,x2,x3,x4,x5,x6,x7,x8,x9,-,-,-,-,-,-,-,-,-,-⟩:=X.out
 obtain⟨y0,y1,y2,y3,y4,-,-,-,-,-⟩:=Y.out
 have hS:(U.drew.cell? ⟨v.heap.size,0,none⟩=some (zI zL xo)/\U.drew.cell? ⟨v.heap.size,1,none⟩=some (zI zL xa)/\U.drew.cell? ⟨v.heap.size,2,none⟩=some (.string xs)/\U.drew.cell? ⟨v.heap.size,3,none⟩=some (zI zL xn)/\U.drew.cell? ⟨v.heap.size,4,none⟩=some (zI zL xd)/\U.drew.cell? ⟨v.heap.size,5,none⟩=some (.bool xf)/\U.drew.cell? ⟨v.heap.size,6,none⟩=some (zI zL xm)/\U.drew.cell? ⟨v.heap.size,7,none⟩=some (zI zL xr)/\U.drew.cell? ⟨v.heap.size,8,none⟩=some (zI zL xy)/\U.drew.cell? ⟨v.heap.size,9,none⟩=some (.slice xq xk xc))/\(U.drew.cell? ⟨v.heap.size+1,0,none⟩=some (.slice p n cap)/\U.drew.cell? ⟨v.heap.size+1,1,none⟩=some (zI zL k2)/\U.drew.cell? ⟨v.heap.size+1,2,none⟩=some (zI zL En)/\U.drew.cell? ⟨v.heap.size+1,3,none⟩=some (zI zL E2)/\U.drew.cell? ⟨v.heap.size+1,4,none⟩=some (zI zL O2)):=⟨⟨x0,x1,x2,x3,x4,x5,x6,x7,x8,x9⟩,⟨y0,y1,y2,y3,y4⟩⟩
 refine wp_region_held (S:=fun w':World=>(w'.cell? ⟨v.heap.size,0,none⟩=some (zI zL xo)/\w'.cell? ⟨v.heap.size,1,none⟩=some (zI zL xa)/\w'.cell? ⟨v.heap.size,2,none⟩=some (.string xs)/\w'.cell? ⟨v.heap.size,3,none⟩=some (zI zL xn)/\w'.cell? ⟨v.heap.size,4,none⟩=some (zI zL xd)/\w'.cell? ⟨v.heap.size,5,none⟩=some (.bool xf)/\w'.cell? ⟨v.heap.size,6,none⟩=some (zI zL xm)/\w'.cell? ⟨v.heap.size,7,none⟩=some (zI zL xr)/\w'.cell? ⟨v.heap.size,8,none⟩=some (zI zL xy)/\w'.cell? ⟨v.heap.size,9,none⟩=some (.slice xq xk xc))/\(w'.cell? ⟨v.heap.size+1,0,none⟩=some (.slice p n cap)/\w'.cell? ⟨v.heap.size+1,1,none⟩=some (zI zL k2)/\w'.cell? ⟨v.heap.size+1,2,none⟩=some (zI zL En)/\w'.cell? ⟨v.heap.size+1,3,none⟩=some (zI zL E2)/\w'.cell? ⟨v.heap.size+1,4,none⟩=some (zI zL O2))) mixed ?_
 change wpAnyH _ _ _ _ _ _ _ _ U.drew
 refine tk0 (v:=?_) zab zab zab (fun _ _ _ h=>h) (Or.inl ⟨by rfl,?_⟩) hS ?_
 rotate_left
 ·(intro w hSw;(try dsimp only at hSw);go_simp;try with_reducible rfl)
 simp only[Act.put,zA,zB,zC]
 refine tk1 (v:=?_) zab zab zab (fun _ _ _ h=>h) (Or.inl ⟨by rfl,?_⟩) hS ?_
 rotate_left
 ·(intro w hSw;(try dsimp only at hSw);go_simp;try with_reducible rfl)
 simp only[Act.put,zA,zB,zC]
 refine wpAnyH_ready (rs:=[2]) zab (by simp) (st2 (fun K hK=>?_) AllReadyH.nil)
 go_simp
 refine(HD.out _ ?_).mono ?_
 ·exact(HS.out.bel F.out.B).bel ((Below.refl _ _).drew)
 rintro _ v4 ⟨rfl,hb⟩
 go_wp2_with fail
 have hb4:=(Below.refl U.heap.size U).drew.trans hb
 replace F:=zH (F.out.bel hb4)
 replace HN:Hid (∀u,tt=some u->ah v4 V.heap.size (ag ts En) u ⟨xo,xa,xs,xn,xd,xf,xm,xr,xy,xq,xk,xc⟩):=fun u hu=>ah.bel hb4 _ _ (HN.out u hu)
 obtain⟨z0,z1,z2,z3,z4,z5,z6,z7,z8,z9,-,-,-,-,-,-,-,-,-,-⟩:=X.out.bel hb4
 obtain⟨u0,u1,u2,u3,u4,-,-,-,-,-⟩:=Y.out.bel hb4
 have hv1:w.heap.size+2<v.heap.size:=zac
 obtain⟨n0,n1,n2,n3,n4,n5,n6,n7,n8,n9,m0,m1,m2,m3,m4,m5,m6,m7,m8,m9⟩:=F.out.N
 obtain⟨e0,e1,e2,e3,e4,g0,g1,g2,g3,g4⟩:=F.out.R
 have BV:=zH F.out.B
 refine hK.out _ _ ?_ (fun hHeld=>?_)
 ·exact⟨⟨z0,z1,z2,z3,z4,z5,z6,z7,z8,z9⟩,u0,u1,u2,u3,u4⟩
 clear hK K
 try simp only[Act.put,zA,zB,zC]
 refine wpAnyH_ready (rs:=[3]) zab (by simp) (st3 (fun K hK=>?_) AllReadyH.nil)
 go_simp
 refine hK.out _ _ ?_ (fun hHeld=>?_)
 ·exact EF
 clear hK K
 try simp only[Act.put,zA,zB,zC]
 refine wpAnyH_ready (rs:=[4]) zab (by simp) (st4 (fun K hK=>?_) AllReadyH.nil)
 go_simp
 refine hK.out _ _ ?_ (fun hHeld=>?_)
 ·exact EF
 clear hK K
 try simp only[Act.put,zA,zB,zC]
 refine wpAnyH_done zab ?_ _
 go_wp2_with fail
 refine bodyPost_ret (v:= .tuple #[.agg #[zI zL xo,zI zL xa,.string xs,zI zL xn,zI zL xd,.bool xf,zI zL xm,zI zL xr,zI zL xy,.slice xq xk xc],.agg #[.slice p n cap,zI zL k3,zI zL En,zI zL E3,zI zL O3]]) zap rfl ⟨⟨xo,xa,xs,xn,xd,xf,xm,xr,xy,xq,xk,xc⟩,rfl,fun u hu=>ah.keep (lo:=V.heap.size) ?_ zac u _ (HN.out u hu),zae⟩
 exact EA
end Go.Proofs.YtnjfolljbfkojaaGreatDoor
