import Derived.Test.YtnjfolljbfkojaaGreatDoorMAI
import Derived.Test.YtnjfolljbfkojaaGreatDoorMAG
import Derived.Test.YtnjfolljbfkojaaGreatDoorMAH
import Derived.Test.YtnjfolljbfkojaaGreatDoorMAF
set_option maxRecDepth 100000
set_option maxHeartbeats 20000000
namespace Go.Proofs.YtnjfolljbfkojaaGreatDoor
open Go.Value renaming int→zI
open Go.IntKind renaming i64→zL
open Go.Lib renaming hid→zH
open Go.RowKit Lx
theorem ay (s:ByteArray):s.data.toList.length=s.size:=by simp
theorem uE (F:FuncId)(p:UInt8->Bool)(hF:Says F p)(s:ByteArray)(i b:Nat)(w:World)(hA:At2 w b (.string s) (zI zL i))(hi:i<=s.size)(hs:s.size<=281474976710656) :
  Calls Tryz.prog 86 #[.pointer (some ⟨b,0,none⟩),.func (.func F) #[] #[]] w fun e w'=>e = .returned (.string (bs ((s.data.toList.drop i).takeWhile p)))/\∃n,w'=w.drewN n:=by
 obtain⟨c0,c1,f0,f1⟩:=hA
 obtain⟨l,hl⟩:∃l,l=s.data.toList.drop i:=⟨_,rfl⟩
 have hx:s.extract i s.size=bs l:=by rw[hl];apply ByteArray.ext;apply Array.ext';rw[Lib.extract_to_end];simp[bs]
 have K:=zH (fun w=>iK F p hF (bs l) w (by rw[aP,hl,List.length_drop,ay];omega))
 rw[eX] at K
 rw[<-hl]
 generalize l.takeWhile p=r at *
 have hiz:(i:Int)<=(s.size:Int):=zac
 clear hF hl
 go_enter Tryz.func86,Tryz.ntmps86
 go_wp2_with fail
 go_quiet ((go_at_call 101;exact Calls.quiet_of_same (K.out _)))
 go_wp2
 go_ret
 exact⟨rfl,_,rfl⟩
def jk (e:Int)(a:Nat):List PanicEntry:=[{ v:= .iface 102 (.agg #[zI zL e,zI zL a]),recovered:=false }]
theorem fD (s:ByteArray)(E:Int)(i b:Nat)(w:World)(hA:At2 w b (.string s) (zI zL i)) :
  Calls Tryz.prog 73 #[.pointer (some ⟨b,0,none⟩),zI zL E] w fun e w'=>e = .panicked (jk E i)/\w'=w:=by
 obtain⟨c0,c1,f0,f1⟩:=hA
 go_enter Tryz.func73,Tryz.ntmps73
 go_wp2
 exact aa rfl ⟨rfl,rfl⟩
theorem At2.set {w:World}{b:Nat}{x y:Value}(h:At2 w b x y)(z:Value):At2 (w.setCell ⟨b,1,none⟩ z) b x z:=by
 obtain⟨c0,c1,f0,f1⟩:=h
 exact⟨by simp[go_sem,c0],by simp[go_sem,c1],by simp[go_sem,f0],by simp[go_sem,f1]⟩
theorem mi (s x:ByteArray)(k a n d:Int)(t:ByteArray)(i b:Nat)(w:World)(hA:At2 w b (.string s) (zI zL i))(hi:i<=s.size)(hx:i+x.size<=s.size)(hs:s.size<=281474976710656) :
  Calls Tryz.prog 103 #[.pointer (some ⟨b,0,none⟩),.string x,.agg #[zI zL k,zI zL a,.string t,zI zL n,zI zL d]] w fun e w' =>
   e = .returned (.agg #[zI zL k,zI zL i,.string t,zI zL n,zI zL d])/\Kept b w w'/\At2 w' b (.string s) (zI zL (i+x.size:Nat)):=by
 have hb:=hA.lt
 have HA:=zH hA
 obtain⟨c0,c1,f0,f1⟩:=hA
 go_enter Tryz.func103,Tryz.ntmps103
 go_wp2_with fail
 refine bodyPost_ret (v:= .agg #[zI zL k,zI zL i,.string t,zI zL n,zI zL d]) (by simp[results,Tryz.results103,go_sem]) rfl ⟨rfl,?_,?_⟩
 ·exact((Kept.refl b w).setCell 1 none _).bel ((((Below.refl _ _).alloc (Nat.le_refl _) _).alloc (by simp) _))
 ·refine At2.below (B:=(w.setCell ⟨b,1,none⟩ (Value.int IntKind.i64 ((i:Int)+(x.size:Int)))).heap.size) ?_ ((((Below.refl _ _).alloc (Nat.le_refl _) _).alloc (by simp) _)) (by simpa[World.setCell] using hb)
  have:=HA.out.set (zI zL ((i:Int)+(x.size:Int)))
  rwa [show((i+x.size:Nat):Int)=(i:Int)+(x.size:Int) by omega]
end Go.Proofs.YtnjfolljbfkojaaGreatDoor
namespace Go.Proofs.YtnjfolljbfkojaaGreatDoor
open Go.Value renaming int→zI
open Go.IntKind renaming i64→zL
open Go.Lib renaming hid→zH
open Go.RowKit Lx Pa
structure Fr (w v:World) (p:Option Addr) (n cap:Nat) (k En E O:Int):Prop where
 A:B5 v w.heap.size (.slice p n cap) (zI zL k) (zI zL En) (zI zL E) (zI zL O)
 N:B10 v (w.heap.size+1) (zI zL 0) (zI zL 0) (.string ⟨#[]⟩) (zI zL 0) (zI zL 0) (.bool false) (zI zL 0) (zI zL 0) (zI zL 0) (.slice none 0 0)
 R:B5 v (w.heap.size+2) (.slice none 0 0) (zI zL 0) (zI zL 0) (zI zL 0) (zI zL 0)
 B:RowKit.Below w.heap.size w v
theorem Fr.bel {w v u:World}{p:Option Addr}{n cap:Nat}{k En E O:Int}(h:Fr w v p n cap k En E O)(hb:RowKit.Below v.heap.size v u):Fr w u p n cap k En E O:=⟨h.A.bel hb,h.N.bel hb,h.R.bel hb,h.B.trans (hb.mono h.B.size)⟩
theorem Fr.inc {w v:World}{p:Option Addr}{n cap:Nat}{k En E O:Int}(h:Fr w v p n cap k En E O)(k':Int):Fr w (v.setCell ⟨w.heap.size,1,none⟩ (zI zL k')) p n cap k' En E O :=
 ⟨h.A.set1 _,h.N.other zac 1 none _,h.R.other zac 1 none _,h.B.setCell (p:=⟨w.heap.size,1,none⟩) (Nat.le_refl _) _⟩
theorem B5.put {w:World}{b:Nat}{x0 x1 x2 x3 x4:Value}(h:B5 w b x0 x1 x2 x3 x4)(y0 y1 y2 y3 y4:Value):B5 (((((w.setCell ⟨b,0,none⟩ y0).setCell ⟨b,1,none⟩ y1).setCell ⟨b,2,none⟩ y2).setCell ⟨b,3,none⟩ y3).setCell ⟨b,4,none⟩ y4) b y0 y1 y2 y3 y4:=by
 obtain⟨c0,c1,c2,c3,c4,f0,f1,f2,f3,f4⟩:=h
 exact⟨by simp[go_sem,c0],by simp[go_sem,c1],by simp[go_sem,c2],by simp[go_sem,c3],by simp[go_sem,c4],zcy,zcz,by simp[World.frozen?_setCell,f2],by simp[World.frozen?_setCell,f3],by simp[World.frozen?_setCell,f4]⟩
theorem Fr.put {w v:World}{p:Option Addr}{n cap:Nat}{k En E O:Int}(h:Fr w v p n cap k En E O)(k' E' O':Int):Fr w (((((v.setCell ⟨w.heap.size,0,none⟩ (.slice p n cap)).setCell ⟨w.heap.size,1,none⟩ (zI zL k')).setCell ⟨w.heap.size,2,none⟩ (zI zL En)).setCell ⟨w.heap.size,3,none⟩ (zI zL E')).setCell ⟨w.heap.size,4,none⟩ (zI zL O')) p n cap k' En E' O' :=
 ⟨h.A.put _ _ _ _ _,((((h.N.other zac 0 none _).other zac 1 none _).other zac 2 none _).other zac 3 none _).other zac 4 none _,((((h.R.other zac 0 none _).other zac 1 none _).other zac 2 none _).other zac 3 none _).other zac 4 none _,
  ((((h.B.setCell (p:=⟨w.heap.size,0,none⟩) (Nat.le_refl _) _).setCell (p:=⟨w.heap.size,1,none⟩) (Nat.le_refl _) _).setCell (p:=⟨w.heap.size,2,none⟩) (Nat.le_refl _) _).setCell (p:=⟨w.heap.size,3,none⟩) (Nat.le_refl _) _).setCell (p:=⟨w.heap.size,4,none⟩) (Nat.le_refl _) _⟩
def bO (w:World)(ts:List Tok)(p:Option Addr)(n cap En:Nat)(k E O:Int)(t:Option Tree)(e:Ending)(w':World):Prop :=
 ∃x:NV,e = .returned (.tuple #[.agg #[zI zL x.o,zI zL x.a,.string x.s,zI zL x.n,zI zL x.d,.bool x.f,zI zL x.m,zI zL x.r,zI zL x.y,.slice x.q x.k x.c],.agg #[.slice p n cap,zI zL k,zI zL En,zI zL E,zI zL O]])/\(∀u,t=some u->ah w' w.heap.size (ag ts En) u x)/\RowKit.Below w.heap.size w w'
def outK {α:Type}(n:Nat):Out α->Nat
 | .ok _ r=>n-r.length
 | .er _ _ m=>n-m
def outE {α:Type}:Out α->Int
 | .ok _ _=>0
 | .er e _ _=>e
def outO {α:Type}(ts:List Tok)(En:Nat)(O:Int):Out α->Int
 | .ok _ _=>O
 | .er _ k _=>ag ts En k
def outT {α:Type}:Out α->Option α
 | .ok t _=>some t
 | .er _ _ _=>none
def Post (w:World)(ts:List Tok)(p:Option Addr)(n cap En:Nat)(O:Int)(out:Out Tree):Ending->World->Prop:=bO w ts p n cap En (outK n out:Nat) (outE out) (outO ts En O out) (outT out)
theorem Fr.new (w:World)(p:Option Addr)(n cap:Nat)(k En E O:Int)(T1 T2:Nat):Fr w (((w.alloc (.cells #[.slice p n cap,zI zL k,zI zL En,zI zL E,zI zL O] T1)).alloc (.cells #[zI zL 0,zI zL 0,.string ⟨#[]⟩,zI zL 0,zI zL 0,.bool false,zI zL 0,zI zL 0,zI zL 0,.slice none 0 0] T2)).alloc (.cells #[.slice none 0 0,zI zL 0,zI zL 0,zI zL 0,zI zL 0] T1)) p n cap k En E O:=by
 have h1:∀(v:World) (o:Obj),RowKit.Below v.heap.size v (v.alloc o):=fun v o=>(Below.refl _ _).alloc (Nat.le_refl _) o
 have s1:∀(v:World) (o:Obj),(v.alloc o).heap.size=v.heap.size+1:=fun v o=>by simp
 constructor
 ·exact((B5.new w _ _ _ _ _ T1).bel (h1 _ _)).bel (h1 _ _)
 ·have:=(B10.new (w.alloc (.cells #[.slice p n cap,zI zL k,zI zL En,zI zL E,zI zL O] T1)) (zI zL 0) (zI zL 0) (.string ⟨#[]⟩) (zI zL 0) (zI zL 0) (.bool false) (zI zL 0) (zI zL 0) (zI zL 0) (.slice none 0 0) T2).bel (h1 _ (.cells #[.slice none 0 0,zI zL 0,zI zL 0,zI zL 0,zI zL 0] T1))
  rw[s1] at this
  exact this
 ·have:=B5.new ((w.alloc (.cells #[.slice p n cap,zI zL k,zI zL En,zI zL E,zI zL O] T1)).alloc (.cells #[zI zL 0,zI zL 0,.string ⟨#[]⟩,zI zL 0,zI zL 0,.bool false,zI zL 0,zI zL 0,zI zL 0,.slice none 0 0] T2)) (.slice none 0 0) (zI zL 0) (zI zL 0) (zI zL 0) (zI zL 0) T1
  rw[s1,s1] at this
  exact this
 ·exact Cv
theorem zw (ts:List Tok)(p:Option Addr)(b off cap n k En:Nat)(O:Int)(w:World)(hS:SlT w p b off n ts)(hkt:k<n)(h1:isW oH (ts.drop k)=true)(k2 E2 O2:Int)(tt:Option Tree)
  (KX:∀w1,SlT w1 p b off n ts->Calls Tryz.prog 51 #[.agg #[.slice p n cap,zI zL (k+1:Nat),zI zL En,zI zL 0,zI zL O],zI zL 2] w1 fun e w'=>bO w1 ts p n cap En k2 E2 O2 tt e w') :
  Calls Tryz.prog 51 #[.agg #[.slice p n cap,zI zL k,zI zL En,zI zL 0,zI zL O],zI zL 2] w fun e w'=>bO w ts p n cap En k2 E2 O2 (tt.map fun t=> .mk 15 (n-k) [] 0 0 1 [t]) e w':=by
 have hmx:=hS.max
 have hk1:IntKind.i64.wrap ((k:Int)+1)=((k+1:Nat):Int):=zal
 have KO:=zH (fun w hS=>aj ts p b off cap n k En 0 O w hS zac)
 have KT:=zH (fun w hS=>bE oH ts p b off cap n k En O w hS)
 rw[h1] at KT
 have HX:=zH KX
 have HS:=zH hS
 obtain⟨at0,hat⟩:∃z,z=ag ts En (n-k):=⟨_,rfl⟩
 rw[<-hat] at KO
 have HAT:=zH hat
 clear h1 hS KX hat
 obtain⟨W3,hW3⟩:∃W3,W3=((w.alloc (.cells #[.slice p n cap,zI zL k,zI zL En,zI zL 0,zI zL O] 62)).alloc (.cells #[zI zL 0,zI zL 0,.string ⟨#[]⟩,zI zL 0,zI zL 0,.bool false,zI zL 0,zI zL 0,zI zL 0,.slice none 0 0] 36)).alloc (.cells #[.slice none 0 0,zI zL 0,zI zL 0,zI zL 0,zI zL 0] 62):=⟨_,rfl⟩
 have F:=zH (Fr.new w p n cap k En 0 O 62 36)
 rw[<-hW3] at F
 go_enter Tryz.func51,Tryz.ntmps51
 go_wp2_with fail
 rw[<-hW3]
 clear hW3
 refine(KO.out _ (HS.out.bel F.out.B)).mono ?_
 rintro _ v1 ⟨rfl,hb⟩
 replace F:=zH (F.out.bel hb)
 clear hb
 obtain⟨c0,c1,c2,c3,c4,f0,f1,f2,f3,f4⟩:=F.out.A
 go_wp2_with fail
 refine(KT.out _ (HS.out.bel F.out.B)).mono ?_
 rintro _ v2 ⟨rfl,hb⟩
 replace F:=zH (F.out.bel hb)
 clear c0 c1 c2 c3 c4 f0 f1 f2 f3 f4
 clear hb
 obtain⟨c0,c1,c2,c3,c4,f0,f1,f2,f3,f4⟩:=F.out.A
 go_wp2_with fail
 replace F:=zH (F.out.inc ((k:Int)+1))
 clear c0 c1 c2 c3 c4 f0 f1 f2 f3 f4
 generalize v2.setCell ⟨w.heap.size,1,none⟩ (zI zL ((k:Int)+1))=V at *
 obtain⟨c0,c1,c2,c3,c4,-,-,-,-,-⟩:=F.out.A
 have hV:w.heap.size+2<V.heap.size:=World.block_lt_of_cell? _ _ F.out.R.c0
 refine(HX.out _ (HS.out.bel F.out.B)).mono ?_
 rintro _ v ⟨⟨xo,xa,xs,xn,xd,xf,xm,xr,xy,xq,xk,xc⟩,rfl,hn,hb⟩
 have hVv:=hb.size
 replace F:=zH (F.out.bel hb)
 have HN:=zH hn
 clear hb hn c0 c1 c2 c3 c4
 go_wp2_with fail
 have ha:=(Below.refl v.heap.size v).alloc (Nat.le_refl _) (.cells #[zI zL xo,zI zL xa,.string xs,zI zL xn,zI zL xd,.bool xf,zI zL xm,zI zL xr,zI zL xy,.slice xq xk xc] 36)
 have hb2:=(Below.refl (v.alloc (.cells #[zI zL xo,zI zL xa,.string xs,zI zL xn,zI zL xd,.bool xf,zI zL xm,zI zL xr,zI zL xy,.slice xq xk xc] 36)).heap.size (v.alloc (.cells #[zI zL xo,zI zL xa,.string xs,zI zL xn,zI zL xd,.bool xf,zI zL xm,zI zL xr,zI zL xy,.slice xq xk xc] 36))).alloc (Nat.le_refl _) (.cells #[.slice p n cap,zI zL k2,zI zL En,zI zL E2,zI zL O2] 62)
 replace HN:Hid (∀u,tt=some u->ah ((v.alloc (.cells #[zI zL xo,zI zL xa,.string xs,zI zL xn,zI zL xd,.bool xf,zI zL xm,zI zL xr,zI zL xy,.slice xq xk xc] 36)).alloc (.cells #[.slice p n cap,zI zL k2,zI zL En,zI zL E2,zI zL O2] 62)) V.heap.size (ag ts En) u ⟨xo,xa,xs,xn,xd,xf,xm,xr,xy,xq,xk,xc⟩):=fun u hu=>ah.bel hb2 _ _ (ah.bel ha _ _ (HN.out u hu))
 replace F:=zH ((F.out.bel ha).bel hb2)
 have X:=zH ((B10.new v (zI zL xo) (zI zL xa) (.string xs) (zI zL xn) (zI zL xd) (.bool xf) (zI zL xm) (zI zL xr) (zI zL xy) (.slice xq xk xc) 36).bel hb2)
 have Y:=zH (B5.new (v.alloc (.cells #[zI zL xo,zI zL xa,.string xs,zI zL xn,zI zL xd,.bool xf,zI zL xm,zI zL xr,zI zL xy,.slice xq xk xc] 36)) (.slice p n cap) (zI zL k2) (zI zL En) (zI zL E2) (zI zL O2) 62)
 rw[show(v.alloc (.cells #[zI zL xo,zI zL xa,.string xs,zI zL xn,zI zL xd,.bool xf,zI zL xm,zI zL xr,zI zL xy,.slice xq xk xc] 36)).heap.size=v.heap.size+1 by simp] at Y
 clear ha hb2
 generalize ((v.alloc (.cells #[zI zL xo,zI zL xa,.string xs,zI zL xn,zI zL xd,.bool xf,zI zL xm,zI zL xr,zI zL xy,.slice xq xk xc] 36)).alloc (.cells #[.slice p n cap,zI zL k2,zI zL En,zI zL E2,zI zL O2] 62))=U at *
 obtain⟨x0,x1,x2,x3,x4,x5,x6,x7,x8,x9,-,-,-,-,-,-,-,-,-,-⟩:=X.out
 obtain⟨y0,y1,y2,y3,y4,-,-,-,-,-⟩:=Y.out
 have hS:(U.drew.cell? ⟨v.heap.size,0,none⟩=some (zI zL xo)/\U.drew.cell? ⟨v.heap.size,1,none⟩=some (zI zL xa)/\U.drew.cell? ⟨v.heap.size,2,none⟩=some (.string xs)/\U.drew.cell? ⟨v.heap.size,3,none⟩=some (zI zL xn)/\U.drew.cell? ⟨v.heap.size,4,none⟩=some (zI zL xd)/\U.drew.cell? ⟨v.heap.size,5,none⟩=some (.bool xf)/\U.drew.cell? ⟨v.heap.size,6,none⟩=some (zI zL xm)/\U.drew.cell? ⟨v.heap.size,7,none⟩=some (zI zL xr)/\U.drew.cell? ⟨v.heap.size,8,none⟩=some (zI zL xy)/\U.drew.cell? ⟨v.heap.size,9,none⟩=some (.slice xq xk xc))/\(U.drew.cell? ⟨v.heap.size+1,0,none⟩=some (.slice p n cap)/\U.drew.cell? ⟨v.heap.size+1,1,none⟩=some (zI zL k2)/\U.drew.cell? ⟨v.heap.size+1,2,none⟩=some (zI zL En)/\U.drew.cell? ⟨v.heap.size+1,3,none⟩=some (zI zL E2)/\U.drew.cell? ⟨v.heap.size+1,4,none⟩=some (zI zL O2)):=⟨⟨x0,x1,x2,x3,x4,x5,x6,x7,x8,x9⟩,⟨y0,y1,y2,y3,y4⟩⟩
 refine wp_region_held (S:=fun w':World=>(w'.cell? ⟨v.heap.size,0,none⟩=some (zI zL xo)/\w'.cell? ⟨v.heap.size,1,none⟩=some (zI zL xa)/\w'.cell? ⟨v.heap.size,2,none⟩=some (.string xs)/\w'.cell? ⟨v.heap.size,3,none⟩=some (zI zL xn)/\w'.cell? ⟨v.heap.size,4,none⟩=some (zI zL xd)/\w'.cell? ⟨v.heap.size,5,none⟩=some (.bool xf)/\w'.cell? ⟨v.heap.size,6,none⟩=some (zI zL xm)/\w'.cell? ⟨v.heap.size,7,none⟩=some (zI zL xr)/\w'.cell? ⟨v.heap.size,8,none⟩=some (zI zL xy)/\w'.cell? ⟨v.heap.size,9,none⟩=some (.slice xq xk xc))/\(w'.cell? ⟨v.heap.size+1,0,none⟩=some (.slice p n cap)/\w'.cell? ⟨v.heap.size+1,1,none⟩=some (zI zL k2)/\w'.cell? ⟨v.heap.size+1,2,none⟩=some (zI zL En)/\w'.cell? ⟨v.heap.size+1,3,none⟩=some (zI zL E2)/\w'.cell? ⟨v.heap.size+1,4,none⟩=some (zI zL O2))) mixed ?_
 change wpAnyH _ _ _ _ _ _ _ _ U.drew
 refine tk0 (v:=?_) zab zab zab (fun _ _ _ h=>h) (Or.inl ⟨by rfl,?_⟩) hS ?_
 rotate_left
 ·(intro w hSw;(try dsimp only at hSw);go_simp;try with_reducible rfl)
 simp only[Act.put,zA,zB,zC]
 refine tk1 (v:=?_) zab zab zab (fun _ _ _ h=>h) (Or.inl ⟨by rfl,?_⟩) hS ?_
 rotate_left
 ·(intro w hSw;(try dsimp only at hSw);go_simp;try with_reducible rfl)
 simp only[Act.put,zA,zB,zC]
 refine tk4 (v:=?_) zab zab zab (fun _ _ _ h=>h) (Or.inl ⟨by rfl,?_⟩) hS ?_
 rotate_left
 ·(intro w hSw;(try dsimp only at hSw);go_simp;try with_reducible rfl)
 simp only[Act.put,zA,zB,zC]
 refine wpAnyH_ready (rs:=[2]) zab (by simp) (st2 (fun K hK=>?_) AllReadyH.nil)
 go_simp
 have hb4:=((Below.refl U.heap.size U).alloc (Nat.le_refl _) (.cells #[zI zL xo,zI zL xa,.string xs,zI zL xn,zI zL xd,.bool xf,zI zL xm,zI zL xr,zI zL xy,.slice xq xk xc] 36)).drew
 have HK4:Hid (Kfr V.heap.size (U.alloc (.cells #[zI zL xo,zI zL xa,.string xs,zI zL xn,zI zL xd,.bool xf,zI zL xm,zI zL xr,zI zL xy,.slice xq xk xc] 36)) (U.alloc (.cells #[zI zL xo,zI zL xa,.string xs,zI zL xn,zI zL xd,.bool xf,zI zL xm,zI zL xr,zI zL xy,.slice xq xk xc] 36)).drew):=(Kfr.refl _ _).drew
 generalize (U.alloc (.cells #[zI zL xo,zI zL xa,.string xs,zI zL xn,zI zL xd,.bool xf,zI zL xm,zI zL xr,zI zL xy,.slice xq xk xc] 36)).drew=V2 at *
 replace F:=zH (F.out.bel hb4)
 have hUv:V.heap.size<=U.heap.size:=by have:=World.block_lt_of_cell? _ _ x0;simp at this;omega
 obtain⟨z0,z1,z2,z3,z4,z5,z6,z7,z8,z9,-,-,-,-,-,-,-,-,-,-⟩:=X.out.bel hb4
 obtain⟨u0,u1,u2,u3,u4,-,-,-,-,-⟩:=Y.out.bel hb4
 have hv1:w.heap.size+2<v.heap.size:=zac
 obtain⟨n0,n1,n2,n3,n4,n5,n6,n7,n8,n9,m0,m1,m2,m3,m4,m5,m6,m7,m8,m9⟩:=F.out.N
 obtain⟨e0,e1,e2,e3,e4,g0,g1,g2,g3,g4⟩:=F.out.R
 have BV:=zH F.out.B
 refine hK.out _ _ ?_ (fun hHeld=>?_)
 ·exact⟨⟨z0,z1,z2,z3,z4,z5,z6,z7,z8,z9⟩,u0,u1,u2,u3,u4⟩
 clear hK K
 try simp only[Act.put,zA,zB,zC]
 refine tk3 (v:=?_) zab zab zab (fun _ _ _ h=>h) (Or.inl ⟨by rfl,?_⟩) hHeld ?_
 rotate_left
 ·(intro w hSw;(try dsimp only at hSw);go_simp;try with_reducible rfl)
 simp only[Act.put,zA,zB,zC]
 refine wpAnyH_ready (rs:=[5]) zab (by simp) (st5 (fun K hK=>?_) AllReadyH.nil)
 go_simp
 refine hK.out _ _ ?_ (fun hHeld=>?_)
 ·exact EF
 clear hK K
 try simp only[Act.put,zA,zB,zC]
 refine wpAnyH_ready (rs:=[6]) zab (by simp) (st6 (fun K hK=>?_) AllReadyH.nil)
 go_simp
 refine hK.out _ _ ?_ (fun hHeld=>?_)
 ·exact EF
 clear hK K
 try simp only[Act.put,zA,zB,zC]
 refine wpAnyH_done zab ?_ _
 go_wp2_with fail
 refine bodyPost_ret (v:= .tuple #[.agg #[zI zL 15,zI zL at0,.string ⟨#[]⟩,zI zL 0,zI zL 0,.bool false,zI zL 0,zI zL 0,zI zL 0,.slice (some ⟨U.heap.size,0,none⟩) 1 1],.agg #[.slice p n cap,zI zL k2,zI zL En,zI zL E2,zI zL O2]]) zbl rfl ⟨⟨15,at0,⟨#[]⟩,0,0,false,0,0,0,some ⟨U.heap.size,0,none⟩,1,1⟩,rfl,fun u hu=>?_,zae⟩
 obtain⟨t,ht,rfl⟩:=Option.map_eq_some_iff.1 hu
 rw[HAT.out]
 refine ah.keep (lo:=V.heap.size) (Kfr.refl _ _) zac _ _ (kJ (v:=U) (T:=36) [t] [⟨xo,xa,xs,xn,xd,xf,xm,xr,xy,xq,xk,xc⟩] 15 (n-k) 1 rfl hUv (fun i h h'=>?_) ?_)
 ·obtain rfl:i=0:=by simp at h;omega
  exact HN.out t ht
 ·exact EY
end Go.Proofs.YtnjfolljbfkojaaGreatDoor
