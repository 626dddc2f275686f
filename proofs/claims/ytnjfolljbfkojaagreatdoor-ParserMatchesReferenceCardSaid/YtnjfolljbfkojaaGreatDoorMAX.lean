import Derived.Test.YtnjfolljbfkojaaGreatDoorMAW
import Derived.Test.YtnjfolljbfkojaaGreatDoorMAV
set_option maxRecDepth 100000
set_option maxHeartbeats 20000000
namespace Go.Proofs.YtnjfolljbfkojaaGreatDoor
open Go.Value renaming int→zI
open Go.IntKind renaming i64→zL
open Go.Lib renaming hid→zH
open Go.RowKit Lx
def Box (w:World)(b:Nat)(x0 x1 x2 x3 x4:Value):Prop:=(w.cell? ⟨b,0,none⟩=some x0/\w.cell? ⟨b,1,none⟩=some x1/\w.cell? ⟨b,2,none⟩=some x2/\w.cell? ⟨b,3,none⟩=some x3/\w.cell? ⟨b,4,none⟩=some x4) /\
 w.frozen? ⟨b,0,none⟩=false/\w.frozen? ⟨b,1,none⟩=false/\w.frozen? ⟨b,2,none⟩=false/\w.frozen? ⟨b,3,none⟩=false/\w.frozen? ⟨b,4,none⟩=false
theorem Box.new (w:World)(x0 x1 x2 x3 x4:Value)(T:Nat):Box (w.alloc (.cells #[x0,x1,x2,x3,x4] T)) w.heap.size x0 x1 x2 x3 x4:=⟨⟨by simp,by simp,by simp,by simp,by simp⟩,by simp,by simp,by simp,by simp,by simp⟩
theorem Box.of {w w1:World}{b:Nat}{x0 x1 x2 x3 x4:Value}(h:Box w b x0 x1 x2 x3 x4)(hb:w1.heap[b]? = w.heap[b]?):Box w1 b x0 x1 x2 x3 x4:=by
 have c:∀o,w1.cell? ⟨b,o,none⟩=w.cell? ⟨b,o,none⟩:=fun o=>World.cell?_of_block (w:=w) (a:=⟨b,o,none⟩) hb
 have f:∀o,w1.frozen? ⟨b,o,none⟩=w.frozen? ⟨b,o,none⟩:=fun o=>World.frozen?_of_block (w:=w) (a:=⟨b,o,none⟩) hb
 unfold Box at h |-
 simp only[c,f];exact h
theorem Kept.box {b r:Nat}{w w1:World}{x0 x1 x2 x3 x4:Value}(h:Kept b w w1)(hx:Box w r x0 x1 x2 x3 x4)(hr:r≠b):Box w1 r x0 x1 x2 x3 x4 :=
 hx.of (h.block r (World.block_lt_of_cell? _ _ hx.1.1) hr)
theorem At2.other {w:World}{b r:Nat}{x y:Value}(h:At2 w b x y)(hr:b≠r)(o:Nat)(v:Value):At2 (w.setCell ⟨r,o,none⟩ v) b x y:=by
 have hb:(w.setCell ⟨r,o,none⟩ v).heap[b]? = w.heap[b]?:=Below.heap_setCell _ _ _ _ hr
 have c:∀o',(w.setCell ⟨r,o,none⟩ v).cell? ⟨b,o',none⟩=w.cell? ⟨b,o',none⟩:=fun o'=>World.cell?_of_block (w:=w) (a:=⟨b,o',none⟩) hb
 have f:∀o',(w.setCell ⟨r,o,none⟩ v).frozen? ⟨b,o',none⟩=w.frozen? ⟨b,o',none⟩:=fun o'=>World.frozen?_of_block (w:=w) (a:=⟨b,o',none⟩) hb
 obtain⟨c0,c1,f0,f1⟩:=h
 exact⟨(c 0).trans c0,(c 1).trans c1,(f 0).trans f0,(f 1).trans f1⟩
def gD:Obj:= .cells #[zI zL 0,zI zL 0,.string ⟨#[]⟩,zI zL 0,zI zL 0] 86
def St (b:Nat)(w0:World)(s:ByteArray)(j:Nat)(w1:World):Prop:=Kept b w0 w1/\At2 w1 b (.string s) (zI zL j)/\Box w1 w0.heap.size (zI zL 0) (zI zL 0) (.string ⟨#[]⟩) (zI zL 0) (zI zL 0)
theorem St.start {b j:Nat}{w:World}{s:ByteArray}(h:At2 w b (.string s) (zI zL j)):St b w s j (w.alloc gD) :=
 ⟨Kept.of ((Below.refl _ _).alloc (Nat.le_refl _) _),h.bel ((Below.refl _ _).alloc (Nat.le_refl _) _),Box.new w _ _ _ _ _ _⟩
theorem St.kept {b j j':Nat}{w0 w1 w2:World}{s:ByteArray}(hb:b<w0.heap.size)(h:St b w0 s j w1)(k:Kept b w1 w2)(a:At2 w2 b (.string s) (zI zL j')):St b w0 s j' w2 :=
 ⟨h.1.trans k,a,k.box h.2.2 zac⟩
theorem St.bel {b j:Nat}{w0 w1 w2:World}{s:ByteArray}(hb:b<w0.heap.size)(h:St b w0 s j w1)(k:RowKit.Below w1.heap.size w1 w2):St b w0 s j w2:=h.kept hb (Kept.of k) (h.2.1.bel k)
theorem St.fin {b j:Nat}{w0 w1:World}{s:ByteArray}(hb:b<w0.heap.size)(h:St b w0 s j w1)(v0 v1 v2 v3 v4:Value) :
  Kept b w0 (((((w1.setCell ⟨w0.heap.size,0,none⟩ v0).setCell ⟨w0.heap.size,1,none⟩ v1).setCell ⟨w0.heap.size,2,none⟩ v2).setCell ⟨w0.heap.size,3,none⟩ v3).setCell ⟨w0.heap.size,4,none⟩ v4) /\
  At2 (((((w1.setCell ⟨w0.heap.size,0,none⟩ v0).setCell ⟨w0.heap.size,1,none⟩ v1).setCell ⟨w0.heap.size,2,none⟩ v2).setCell ⟨w0.heap.size,3,none⟩ v3).setCell ⟨w0.heap.size,4,none⟩ v4) b (.string s) (zI zL j) :=
 ⟨((((h.1.other (Nat.le_refl _) _ _).other (Nat.le_refl _) _ _).other (Nat.le_refl _) _ _).other (Nat.le_refl _) _ _).other (Nat.le_refl _) _ _,
  ((((h.2.1.other zac _ _).other zac _ _).other zac _ _).other zac _ _).other zac _ _⟩
theorem gH {s:ByteArray}{i b:Nat}{w:World}(hA:At2 w b (.string s) (zI zL i))(hi:i<=s.size)(hs:s.size<=281474976710656){p:UInt8->Bool}{F:FuncId}(hF:Says F p){x:List UInt8}(hx:(s.data.toList.drop i).takeWhile p=x) :
  Calls Tryz.prog 86 #[.pointer (some ⟨b,0,none⟩),.func (.func F) #[] #[]] w fun e w'=>e = .returned (.string (bs x))/\RowKit.Below w.heap.size w w':=by
 subst hx
 refine(uE F p hF s i b w hA hi hs).mono ?_
 rintro _ _ ⟨rfl,n,rfl⟩
 exact⟨rfl,below_drewN (Below.refl _ _) _⟩
theorem Au (s:ByteArray)(i b:Nat)(w:World)(x:List UInt8)(hA:At2 w b (.string s) (zI zL i))(hi:i<=s.size)(hs:s.size<=281474976710656)(hx:(s.data.toList.drop i).takeWhile wrd=x)(hl:x.length<=16) :
  Calls Tryz.prog 90 #[.pointer (some ⟨b,0,none⟩)] w fun e w'=>e = .returned (fI ⟨1,i,x,0,0⟩)/\Kept b w w'/\At2 w' b (.string s) (zI zL (i+x.length:Nat)):=by
 have hb:=hA.lt
 have hxs:i+x.length<=s.size:=by
  have:=bG (p:=wrd) (s.data.toList.drop i)
  rw[hx,List.length_drop,ay] at this;omega
 have HS:Hid ((bs x).size=x.length):=aP x
 have d1:decide ((16:Int)<((bs x).size:Int))=false:=by rw[HS.out];simp;omega
 have d2:decide (16<(bs x).size)=false:=by rw[HS.out];simp;omega
 have HA:=zH hA
 have HX:=zH hx
 have KC:=zH (fun w=>nO (bs x) w (by rw[HS.out];omega))
 have KP:=zH (fun w hA=>mi s (bs x) 1 0 0 0 (bs x) i b w hA hi (by rw[HS.out];omega) hs)
 rw[HS.out] at KP
 clear hA hx
 have H1:=zH (St.start HA.out)
 go_enter Tryz.func90,Tryz.ntmps90
 go_wp2_with fail
 change Calls Tryz.prog 86 #[.pointer (some ⟨b,0,none⟩),.func (.func 105) #[] #[]] (w.alloc gD) fun e w'=>_
 generalize w.alloc gD=w1 at *
 have KR:=zH (gH H1.out.2.1 hi hs nI HX.out)
 refine KR.out.mono ?_
 rintro _ w2 ⟨rfl,h2⟩
 have H2:=zH (St.bel hb H1.out h2)
 clear h2
 clear HS KR H1
 go_wp2_with fail
 refine(KC.out _).mono ?_
 rintro _ w3 ⟨rfl,h3⟩
 have H3:=zH (St.bel hb H2.out h3)
 clear h3 H2
 go_wp2_with fail
 have KQ:=zH (KP.out _ H3.out.2.1)
 refine KQ.out.mono ?_
 rintro _ w4 ⟨rfl,h4,h5⟩
 have H4:=zH (St.kept hb H3.out h4 h5)
 clear h4 h5 H3 KQ
 obtain⟨⟨c0,c1,c2,c3,c4⟩,f0,f1,f2,f3,f4⟩:=H4.out.2.2
 go_wp2_with fail
 refine bodyPost_ret (v:=fI ⟨1,i,x,0,0⟩) (by simp[results,Tryz.results90,go_sem,fI,c0,c1,c2,c3,c4]) rfl ⟨rfl,?_,?_⟩
 ·exact(H4.out.fin hb _ _ _ _ _).1
 ·exact(H4.out.fin hb _ _ _ _ _).2
theorem bX {l:List UInt8}{k:Nat}(h:gU l k=true):l≠[]/\l.length<=k/\oG l=true:=by
 unfold gU at h
 simp only[Bool.and_eq_true,decide_eq_true_eq] at h
 exact⟨h.1.1,h.1.2,h.2⟩
theorem lJ {x:List UInt8}(hf:frm x=true):(whole x++((behind x).tail++[48,48]).take 2).length<=11/\whole x++((behind x).tail++[48,48]).take 2≠[]/\oG (whole x++((behind x).tail++[48,48]).take 2)=true:=by
 unfold frm at hf
 rw[Bool.and_eq_true,Bool.or_eq_true,decide_eq_true_eq] at hf
 obtain⟨h1,h2⟩:=hf
 obtain⟨a1,a2,a3⟩:=bX h1
 refine⟨by rw[List.length_append,List.length_take];omega,by simp[a1],?_⟩
 unfold oG at a3 |-
 rw[List.all_append,a3,Bool.true_and]
 rw[List.all_eq_true]
 intro c hc
 have hc:=List.mem_of_mem_take hc
 rw[List.mem_append] at hc
 rcases hc with hc|hc
 ·rcases h2 with h2|h2
  ·rw[h2] at hc;simp at hc
  ·have:=(bX h2).2.2
   unfold oG at this
   exact List.all_eq_true.1 this c hc
 ·simp at hc;subst hc;rfl
theorem zU:∀(l:List UInt8) (a:Nat),oG l=true->l.foldl (fun a c=>a*10+(c.toNat-48)) a<(a+1)*10^l.length
 | [],a,_=>by simp
 | c::l,a,h=>by
  unfold oG at h
  rw[List.all_cons,Bool.and_eq_true] at h
  have hd:48<=c.toNat/\c.toNat<=57:=by have:=h.1;unfold dgt at this;simpa using this
  rw[List.foldl_cons,List.length_cons,Nat.pow_succ]
  have:=zU l (a*10+(c.toNat-48)) h.2
  have h2:(a*10+(c.toNat-48)+1)*10^l.length<=((a+1)*10)*10^l.length:=Nat.mul_le_mul_right _ zac
  have h3:(a+1)*10*10^l.length=(a+1)*(10^l.length*10):=by rw[Nat.mul_assoc,Nat.mul_comm 10]
  omega
theorem zM {x:List UInt8}(hf:frm x=true):hun x<100000000000:=by
 obtain⟨t1,t2,t3⟩:=lJ hf
 have:=zU _ 0 t3
 unfold hun rY
 have h2:10^(whole x++((behind x).tail++[48,48]).take 2).length<=10^11:=Nat.pow_le_pow_right zah t1
 omega
def Vh (h:Nat):Int×Int×Int:=mk (h:Int) 100
theorem Bh (s:ByteArray)(i b:Nat)(w:World)(x:List UInt8)(hA:At2 w b (.string s) (zI zL i))(hi:i<=s.size)(hs:s.size<=281474976710656)(hx:(s.data.toList.drop i).takeWhile wrd=x)(hl:16<x.length) :
  Calls Tryz.prog 90 #[.pointer (some ⟨b,0,none⟩)] w fun e w'=>e = .panicked (jk 2 i)/\Kept b w w':=by
 have hb:=hA.lt
 have hz:=aP x
 have d1:decide ((16:Int)<((bs x).size:Int))=true:=by rw[hz];simp;omega
 have d2:decide (16<(bs x).size)=true:=by rw[hz];simp;omega
 have HA:=zH hA
 have HX:=zH hx
 have H1:=zH (St.start HA.out)
 clear hA hx hz
 go_enter Tryz.func90,Tryz.ntmps90
 go_wp2_with fail
 change Calls Tryz.prog 86 #[.pointer (some ⟨b,0,none⟩),.func (.func 105) #[] #[]] (w.alloc gD) fun e w'=>_
 generalize w.alloc gD=w1 at *
 have KR:=zH (gH H1.out.2.1 hi hs nI HX.out)
 refine(KR.out).mono ?_
 rintro _ w2 ⟨rfl,h2⟩
 have H2:=zH (St.bel hb H1.out h2)
 clear h2 H1
 clear KR
 go_wp2_with fail
 have KF:=zH (fD s 2 i b _ H2.out.2.1)
 refine KF.out.mono ?_
 rintro _ _ ⟨rfl,rfl⟩
 go_wp2_with fail
 exact aa rfl ⟨rfl,H2.out.1⟩
theorem mr {s:ByteArray}{i:Nat}{x:List UInt8}(hx:s.data.toList.drop i=x):s.extract i s.size=bs x:=by
 subst hx;apply ByteArray.ext;apply Array.ext';rw[Lib.extract_to_end];simp[bs]
theorem Cr (s:ByteArray)(i b:Nat)(w:World)(x:List UInt8)(k:Nat)(hA:At2 w b (.string s) (zI zL i))(hi:i<=s.size)(hs:s.size<=281474976710656)(hx:s.data.toList.drop i=x)(hk:sgn x=k)(h0:0<k) :
  Calls Tryz.prog 88 #[.pointer (some ⟨b,0,none⟩)] w fun e w'=>e = .returned (fI ⟨3,i,x.take k,0,0⟩)/\Kept b w w'/\At2 w' b (.string s) (zI zL (i+k:Nat)):=by
 have hb:=hA.lt
 have hxl:x.length=s.size-i:=by rw[<-hx,List.length_drop,ay]
 have hkl:k<=x.length:=by rw[<-hk];exact ui x
 obtain⟨X,hX⟩:∃X,X=bs x:=⟨_,rfl⟩
 obtain⟨T,hT⟩:∃T,T=bs (x.take k):=⟨_,rfl⟩
 have e1:s.extract i s.size=X:=by rw[hX];exact mr (i:=i) hx
 have e2:X.extract 0 k=T:=by rw[hX,hT];exact jV x k
 have HZ:Hid (T.size=k):=by show _=_;rw[hT,aP,List.length_take];omega
 have hXs:X.size=x.length:=by rw[hX,aP]
 have KS:Hid (∀w:World,Calls Tryz.prog 102 #[.string X] w fun e w'=>e = .returned (zI zL (k:Nat))/\w'=w):=fun w=>by
  have hd:X.data.toList=x:=by rw[hX];exact eX x
  cases hxc:x with
  | nil=>rw[hxc] at hkl;simp at hkl;omega
  | cons c r =>
   have:=gM X c r w (by rw[hd,hxc]) zac
   rw[<-hxc,hk] at this
   exact this
 have KC:=zH (fun w=>nO T w (by rw[HZ.out];omega))
 have d1:(T.toList==[])=false:=by
  rw[hT,aM]
  cases hxc:x.take k with
  | nil=>have:=congrArg List.length hxc;rw[List.length_take,List.length_nil] at this;omega
  | cons c r=>rfl
 have d3:T.toList.isEmpty=false:=by
  rw[hT,aM]
  cases hxc:x.take k with
  | nil=>have:=congrArg List.length hxc;rw[List.length_take,List.length_nil] at this;omega
  | cons c r=>rfl
 have d2:(i:Int)<=(s.size:Int):=zac
 have d4:(k:Int)<=(X.size:Int):=zac
 have HT:=zH hT
 have H1:=zH (St.start hA)
 have hkz:i+k<=s.size:=zac
 have hkb:k<=281474976710656:=zac
 obtain⟨c0,c1,_,_⟩:=hA
 clear hX hT hx hxl hk hXs hkl
 show Calls Tryz.prog 88 #[.pointer (some ⟨b,0,none⟩)] w fun e w'=>e = .returned (.agg #[zI zL 3,zI zL i,.string (bs (x.take k)),zI zL 0,zI zL 0])/\_
 rw[<-HT.out]
 go_enter Tryz.func88,Tryz.ntmps88
 go_wp2_with fail
 change Code.wp _ _ _ _ (w.alloc gD)
 have b1:=H1.out.2.1.c0
 have b2:=H1.out.2.1.c1
 generalize w.alloc gD=w1 at *
 go_quiet (fail)
 have H2:=zH (St.bel hb H1.out (below_drewN (Below.refl _ _) nq))
 clear H1 b1 b2 c0 c1
 generalize w1.drewN nq=w2 at *
 go_wp2_with fail
 refine(KS.out _).mono ?_
 rintro _ _ ⟨rfl,rfl⟩
 go_wp2_with fail
 refine(KC.out _).mono ?_
 rintro _ w3 ⟨rfl,h3⟩
 have H3:=zH (St.bel hb H2.out h3)
 clear h3 H2
 go_wp2_with fail
 have KQ:=zH (mi s T 3 0 0 0 T i b _ H3.out.2.1 hi (by rw[HZ.out];omega) hs)
 rw[HZ.out] at KQ
 refine KQ.out.mono ?_
 rintro _ w4 ⟨rfl,h4,h5⟩
 have H4:=zH (St.kept hb H3.out h4 h5)
 clear h4 h5 H3 KQ
 obtain⟨⟨c0,c1,c2,c3,c4⟩,f0,f1,f2,f3,f4⟩:=H4.out.2.2
 go_wp2_with fail
 exact bodyPost_ret (v:= .agg #[zI zL 3,zI zL i,.string T,zI zL 0,zI zL 0]) (by simp[results,Tryz.results88,go_sem,c0,c1,c2,c3,c4]) rfl ⟨rfl,(H4.out.fin hb _ _ _ _ _).1,(H4.out.fin hb _ _ _ _ _).2⟩
theorem Ah (s:ByteArray)(i b:Nat)(w:World)(x:List UInt8)(hA:At2 w b (.string s) (zI zL i))(hi:i<=s.size)(hs:s.size<=281474976710656)(hx:s.data.toList.drop i=x)(hk:sgn x=0)(hne:x≠[]) :
  Calls Tryz.prog 88 #[.pointer (some ⟨b,0,none⟩)] w fun e w'=>e = .panicked (jk 10 i)/\Kept b w w':=by
 have hb:=hA.lt
 have hxl:x.length=s.size-i:=by rw[<-hx,List.length_drop,ay]
 obtain⟨X,hX⟩:∃X,X=bs x:=⟨_,rfl⟩
 have e1:s.extract i s.size=X:=by rw[hX];exact mr (i:=i) hx
 have hXs:X.size=x.length:=by rw[hX,aP]
 have e2:X.extract 0 0=⟨#[]⟩:=by apply ByteArray.ext;apply Array.ext';simp
 have KS:Hid (∀w:World,Calls Tryz.prog 102 #[.string X] w fun e w'=>e = .returned (zI zL 0)/\w'=w):=fun w=>by
  have hd:X.data.toList=x:=by rw[hX];exact eX x
  cases hxc:x with
  | nil=>exact absurd hxc hne
  | cons c r =>
   have:=gM X c r w (by rw[hd,hxc]) zac
   rw[<-hxc,hk] at this
   exact this
 have d2:(i:Int)<=(s.size:Int):=zac
 have H1:=zH (St.start hA)
 obtain⟨c0,c1,_,_⟩:=hA
 clear hX hx hxl hk hXs hne
 go_enter Tryz.func88,Tryz.ntmps88
 go_wp2_with fail
 change Code.wp _ _ _ _ (w.alloc gD)
 have b1:=H1.out.2.1.c0
 have b2:=H1.out.2.1.c1
 generalize w.alloc gD=w1 at *
 go_quiet (fail)
 have H2:=zH (St.bel hb H1.out (below_drewN (Below.refl _ _) nq))
 clear H1 b1 b2 c0 c1
 generalize w1.drewN nq=w2 at *
 go_wp2_with fail
 refine(KS.out _).mono ?_
 rintro _ _ ⟨rfl,rfl⟩
 go_wp2_with fail
 have KF:=zH (fD s 10 i b _ H2.out.2.1)
 refine KF.out.mono ?_
 rintro _ _ ⟨rfl,rfl⟩
 go_wp2_with fail
 exact aa rfl ⟨rfl,H2.out.1⟩
theorem rz (s:ByteArray)(i b:Nat)(w:World)(x:List UInt8)(hA:At2 w b (.string s) (zI zL i))(hi:i<=s.size)(hs:s.size<=281474976710656)(hx:(s.data.toList.drop i).takeWhile nmb=x)(hf:frm x=false) :
  Calls Tryz.prog 92 #[.pointer (some ⟨b,0,none⟩)] w fun e w'=>e = .panicked (jk 8 i)/\Kept b w w':=by
 have hb:=hA.lt
 have hxs:i+x.length<=s.size:=by
  have:=bG (p:=nmb) (s.data.toList.drop i)
  rw[hx,List.length_drop,ay] at this;omega
 have HZ:Hid ((bs x).size=x.length):=aP x
 have hpl:=congrArg List.length (dw x)
 rw[List.length_append] at hpl
 have htl:(behind x).tail.length<=(behind x).length:=by rw[List.length_tail];omega
 have KC:=zH (fun w=>pV x w zac)
 have KD:Hid (∀w:World,Calls Tryz.prog 108 #[.string (bs (whole x)),zI zL 9] w fun e w'=>e = .returned (.bool (gU (whole x) 9))/\w'=w):=fun w=>bU (whole x) 9 w zac
 have KD2:Hid (∀w:World,Calls Tryz.prog 108 #[.string (bs (behind x).tail),zI zL 2] w fun e w'=>e = .returned (.bool (gU (behind x).tail 2))/\w'=w):=fun w=>bU (behind x).tail 2 w zac
 have HA:=zH hA
 have HX:=zH hx
 have H1:=zH (St.start HA.out)
 have hf':gU (whole x) 9=false\/(gU (whole x) 9=true/\behind x≠[]/\gU (behind x).tail 2=false):=by
  unfold frm at hf
  cases h1:gU (whole x) 9 with
  | false=>left;rfl
  | true =>
   right
   rw[h1,Bool.true_and,Bool.or_eq_false_iff,decide_eq_false_iff_not] at hf
   exact⟨rfl,hf.1,hf.2⟩
 clear hf hA hx hpl htl
 rcases hf' with h1|⟨h1,h2,h3⟩
 ·rw[h1] at KD
  generalize whole x=A at *
  generalize (behind x).tail=B at *
  generalize decide (behind x≠[])=q at *
  cases q
  ·exact zz56
  ·exact zz56
 ·rw[h1] at KD
  rw[h3] at KD2
  rw[decide_eq_true h2] at KC
  generalize whole x=A at *
  generalize (behind x).tail=B at *
  go_enter Tryz.func92,Tryz.ntmps92
  go_wp2_with fail
  change Calls Tryz.prog 86 #[.pointer (some ⟨b,0,none⟩),.func (.func 106) #[] #[]] (w.alloc gD) fun e w'=>_
  generalize w.alloc gD=w1 at *
  have KR:=zH (gH H1.out.2.1 hi hs fE HX.out)
  refine(KR.out).mono ?_
  rintro _ w2 ⟨rfl,h2⟩
  have H2:=zH (St.bel hb H1.out h2)
  clear h2 H1
  clear KR
  go_wp2_with fail
  refine(KC.out _).mono ?_
  rintro _ w3 ⟨rfl,h3⟩
  have H3:=zH (St.bel hb H2.out h3)
  clear h3 H2
  clear KC
  go_wp2_with (first|((with_reducible refine(KD.out _).mono ?_);rintro _ _ ⟨rfl,rfl⟩)|((with_reducible refine(KD2.out _).mono ?_);rintro _ _ ⟨rfl,rfl⟩))
  have KF:=zH (fD s 8 i b _ H3.out.2.1)
  refine KF.out.mono ?_
  rintro _ _ ⟨rfl,rfl⟩
  go_wp2_with fail
  exact aa rfl ⟨rfl,H3.out.1⟩
theorem ul (s:ByteArray)(i b:Nat)(w:World)(x:List UInt8)(hA:At2 w b (.string s) (zI zL i))(hi:i<=s.size)(hs:s.size<=281474976710656)(hx:(s.data.toList.drop i).takeWhile nmb=x)(hf:frm x=true)(n d:Int)(hv:Vh (hun x)=(n,d,0)) :
  Calls Tryz.prog 92 #[.pointer (some ⟨b,0,none⟩)] w fun e w'=>e = .returned (fI ⟨2,i,[],n,d⟩)/\Kept b w w'/\At2 w' b (.string s) (zI zL (i+x.length:Nat)):=by
 have hb:=hA.lt
 have hxs:i+x.length<=s.size:=by
  have:=bG (p:=nmb) (s.data.toList.drop i)
  rw[hx,List.length_drop,ay] at this;omega
 have HZ:Hid ((bs x).size=x.length):=aP x
 have hpl:=congrArg List.length (dw x)
 rw[List.length_append] at hpl
 have htl:(behind x).tail.length<=(behind x).length:=by rw[List.length_tail];omega
 have KC:=zH (fun w=>pV x w zac)
 have KD:Hid (∀w:World,Calls Tryz.prog 108 #[.string (bs (whole x)),zI zL 9] w fun e w'=>e = .returned (.bool (gU (whole x) 9))/\w'=w):=fun w=>bU (whole x) 9 w zac
 have KD2:Hid (∀w:World,Calls Tryz.prog 108 #[.string (bs (behind x).tail),zI zL 2] w fun e w'=>e = .returned (.bool (gU (behind x).tail 2))/\w'=w):=fun w=>bU (behind x).tail 2 w zac
 have HA:=zH hA
 have HX:=zH hx
 have H1:=zH (St.start HA.out)
 show Calls Tryz.prog 92 #[.pointer (some ⟨b,0,none⟩)] w fun e w'=>e = .returned (.agg #[zI zL 2,zI zL i,.string ⟨#[]⟩,zI zL n,zI zL d])/\_
 have hf':gU (whole x) 9=true/\(behind x=[]\/(behind x≠[]/\gU (behind x).tail 2=true)):=by
  unfold frm at hf
  exact CQ
 obtain⟨t1,t2,t3⟩:=lJ hf
 have KA:Hid (∀w:World,Calls Tryz.prog 109 #[.string (bs (whole x++((behind x).tail++[48,48]).take 2))] w fun e w'=>e = .returned (.tuple #[zI zL (hun x:Nat),.nilIface])/\RowKit.Below w.heap.size w w'):=fun w=>pY _ w zac t2 t3
 have hhl:=zM hf
 have KM:Hid (∀w:World,Calls Tryz.prog 110 #[zI zL (hun x:Nat),zI zL 100] w fun e w'=>e = .returned (.tuple #[.agg #[zI zL n,zI zL d],zI zL 0])/\RowKit.Below w.heap.size w w'):=fun w=>by
  have:=lL (hun x:Nat) 100 w zac zac zac zac
  rw[show mk (hun x:Nat) 100=(n,d,0) from hv] at this
  exact this
 have u1:(bs (behind x).tail++⟨#[48,48]⟩).extract 0 2=bs (((behind x).tail++[48,48]).take 2):=by
  have:(⟨#[48,48]⟩:ByteArray)=bs [48,48]:=rfl
  rw[this,kW,jV]
 have u2:bs (whole x)++bs (((behind x).tail++[48,48]).take 2)=bs (whole x++((behind x).tail++[48,48]).take 2):=kW _ _
 have u3:(2:Int)<=((bs (behind x).tail++⟨#[48,48]⟩).size:Int):=by
  have:(⟨#[48,48]⟩:ByteArray)=bs [48,48]:=rfl
  rw[this,kW,aP];simp;omega
 have z1:(bs (whole x)).size<=9:=by rw[aP];exact(bX hf'.1).2.1
 have z2:(bs (behind x).tail).size<=2:=by
  rw[aP]
  rcases hf'.2 with h|⟨_,h⟩
  ·rw[h];simp
  ·exact(bX h).2.1
 have z3:(bs (((behind x).tail++[48,48]).take 2)).size<=2:=by rw[aP,List.length_take];omega
 clear hf hA hx hpl htl t1 t2 t3 hhl hv
 obtain⟨h1,h2⟩:=hf'
 rw[h1] at KD
 have HB:Hid ((decide (behind x≠[])=false)\/(decide (behind x≠[])=true/\gU (behind x).tail 2=true)):=by
  rcases h2 with h|⟨h,h3⟩
  ·exact Or.inl (decide_eq_false zbt)
  ·exact Or.inr ⟨decide_eq_true h,h3⟩
 clear h1 h2
 generalize hun x=h at *
 generalize bs (whole x++((behind x).tail++[48,48]).take 2)=T at *
 generalize bs (((behind x).tail++[48,48]).take 2)=C at *
 generalize bs (whole x)=A at *
 generalize gU (behind x).tail 2=q2 at *
 generalize bs (behind x).tail=B at *
 generalize decide (behind x≠[])=q at *
 rcases HB.out with rfl|⟨rfl,rfl⟩
 ·exact zz40
 ·exact zz40
theorem rR (s:ByteArray)(i b:Nat)(w:World)(x:List UInt8)(hA:At2 w b (.string s) (zI zL i))(hi:i<=s.size)(hs:s.size<=281474976710656)(hx:(s.data.toList.drop i).takeWhile nmb=x)(hf:frm x=true)(n d ee:Int)(hv:Vh (hun x)=(n,d,ee))(he:ee≠0) :
  Calls Tryz.prog 92 #[.pointer (some ⟨b,0,none⟩)] w fun e w'=>e = .panicked (jk 3 i)/\Kept b w w':=by
 have hb:=hA.lt
 have hxs:i+x.length<=s.size:=by
  have:=bG (p:=nmb) (s.data.toList.drop i)
  rw[hx,List.length_drop,ay] at this;omega
 have HZ:Hid ((bs x).size=x.length):=aP x
 have hpl:=congrArg List.length (dw x)
 rw[List.length_append] at hpl
 have htl:(behind x).tail.length<=(behind x).length:=by rw[List.length_tail];omega
 have KC:=zH (fun w=>pV x w zac)
 have KD:Hid (∀w:World,Calls Tryz.prog 108 #[.string (bs (whole x)),zI zL 9] w fun e w'=>e = .returned (.bool (gU (whole x) 9))/\w'=w):=fun w=>bU (whole x) 9 w zac
 have KD2:Hid (∀w:World,Calls Tryz.prog 108 #[.string (bs (behind x).tail),zI zL 2] w fun e w'=>e = .returned (.bool (gU (behind x).tail 2))/\w'=w):=fun w=>bU (behind x).tail 2 w zac
 have HA:=zH hA
 have HX:=zH hx
 have H1:=zH (St.start HA.out)
 have he1:(ee==0)=false:=by simpa using he
 have he2:(ee != 0)=true:=by simpa using he
 have hf':gU (whole x) 9=true/\(behind x=[]\/(behind x≠[]/\gU (behind x).tail 2=true)):=by
  unfold frm at hf
  exact CQ
 obtain⟨t1,t2,t3⟩:=lJ hf
 have KA:Hid (∀w:World,Calls Tryz.prog 109 #[.string (bs (whole x++((behind x).tail++[48,48]).take 2))] w fun e w'=>e = .returned (.tuple #[zI zL (hun x:Nat),.nilIface])/\RowKit.Below w.heap.size w w'):=fun w=>pY _ w zac t2 t3
 have hhl:=zM hf
 have KM:Hid (∀w:World,Calls Tryz.prog 110 #[zI zL (hun x:Nat),zI zL 100] w fun e w'=>e = .returned (.tuple #[.agg #[zI zL n,zI zL d],zI zL ee])/\RowKit.Below w.heap.size w w'):=fun w=>by
  have:=lL (hun x:Nat) 100 w zac zac zac zac
  rw[show mk (hun x:Nat) 100=(n,d,ee) from hv] at this
  exact this
 have u1:(bs (behind x).tail++⟨#[48,48]⟩).extract 0 2=bs (((behind x).tail++[48,48]).take 2):=by
  have:(⟨#[48,48]⟩:ByteArray)=bs [48,48]:=rfl
  rw[this,kW,jV]
 have u2:bs (whole x)++bs (((behind x).tail++[48,48]).take 2)=bs (whole x++((behind x).tail++[48,48]).take 2):=kW _ _
 have u3:(2:Int)<=((bs (behind x).tail++⟨#[48,48]⟩).size:Int):=by
  have:(⟨#[48,48]⟩:ByteArray)=bs [48,48]:=rfl
  rw[this,kW,aP];simp;omega
 have z1:(bs (whole x)).size<=9:=by rw[aP];exact(bX hf'.1).2.1
 have z2:(bs (behind x).tail).size<=2:=by
  rw[aP]
  rcases hf'.2 with h|⟨_,h⟩
  ·rw[h];simp
  ·exact(bX h).2.1
 have z3:(bs (((behind x).tail++[48,48]).take 2)).size<=2:=by rw[aP,List.length_take];omega
 clear hf hA hx hpl htl t1 t2 t3 hhl hv
 obtain⟨h1,h2⟩:=hf'
 rw[h1] at KD
 have HB:Hid ((decide (behind x≠[])=false)\/(decide (behind x≠[])=true/\gU (behind x).tail 2=true)):=by
  rcases h2 with h|⟨h,h3⟩
  ·exact Or.inl (decide_eq_false zbt)
  ·exact Or.inr ⟨decide_eq_true h,h3⟩
 clear h1 h2
 generalize hun x=h at *
 generalize bs (whole x++((behind x).tail++[48,48]).take 2)=T at *
 generalize bs (((behind x).tail++[48,48]).take 2)=C at *
 generalize bs (whole x)=A at *
 generalize gU (behind x).tail 2=q2 at *
 generalize bs (behind x).tail=B at *
 generalize decide (behind x≠[])=q at *
 rcases HB.out with rfl|⟨rfl,rfl⟩
 ·exact zz43
 ·exact zz43
end Go.Proofs.YtnjfolljbfkojaaGreatDoor
namespace Go.Proofs.YtnjfolljbfkojaaGreatDoor
open Go.Value renaming int→zI
open Go.IntKind renaming i64→zL
open Go.Lib renaming hid→zH
open Go.RowKit Lx Pa
section
variable {ts:List Tok} {p:Option Addr} {b off cap n En:Nat}
theorem iY (s:List UInt8)(σ:Sg)(h:σ.E≠0\/isW s (ts.drop σ.k)=false)(w1:World)(hS:SlT w1 p b off n ts) :
  Calls Tryz.prog 20 #[.agg #[.slice p n cap,zI zL (σ.k:Nat),zI zL En,zI zL σ.E,zI zL σ.O],.string (bs s)] w1 fun e w'=>e = .returned (.bool false)/\RowKit.Below w1.heap.size w1 w':=by
 obtain⟨k,E,O⟩:=σ
 simp only at h |-
 by_cases h0:E=0
 ·subst h0
  have:=bE s ts p b off cap n k En O w1 hS
  rw[h.resolve_left (by simp)] at this
  exact this
 ·exact nN s p cap n k En E O w1 h0
theorem Ba {M:Int->Int->Int×Int×Int}(k:Nat)(O:Int)(hk:k<ts.length)(h:isW oH (ts.drop k)=true) :
  (Sg.mk k 0 O).run ts En (rd M (.row 2))=(Sg.mk (k+1) 0 O).run ts En (rd M (.row 2))/\(Sg.mk k 0 O).val ts (rd M (.row 2))=((Sg.mk (k+1) 0 O).val ts (rd M (.row 2))).map fun t=> .mk 15 (ts.length-k) [] 0 0 1 [t]:=by
 have e:rd M (.row 2) (ts.drop k)=(fun t=>(rd M (.row 2) t).bind fun m r=> .ok (.mk 15 (ts.length-k) [] 0 0 1 [m]) r) (ts.drop (k+1)):=by
  rw[fK]
  simp only[Pa.step]
  rw[if_neg zah,if_pos trivial,if_pos h,List.tail_drop,List.length_drop]
 obtain⟨r1,r2⟩:=dM (ts:=ts) (En:=En) (O:=O) (o:=rd M (.row 2)) (o':=fun t=>(rd M (.row 2) t).bind fun m r=> .ok (.mk 15 (ts.length-k) [] 0 0 1 [m]) r) e
 have hg:=aX (M:=M) (.row 2) (ts.drop (k+1))
 have k1:=(au (En:=En) (σ:=⟨k+1,0,O⟩) hg hk).1
 obtain⟨q1,q2⟩:=run_bind (En:=En) (σ:=⟨k+1,0,O⟩) (f:=fun m r=>Out.ok (Tree.mk 15 (ts.length-k) [] 0 0 1 [m]) r) hg hk
 rw[r1,r2,q1,q2]
 cases hv:(Sg.mk (k+1) 0 O).val ts (rd M (.row 2)) with
 | none=>exact⟨rfl,rfl⟩
 | some m =>
  have h1:=qA (ts:=ts) (En:=En) (Tree.mk 15 (ts.length-k) [] 0 0 1 [m]) k1
  refine⟨h1.1,h1.2.trans ?_⟩
  rw[if_pos (ik (En:=En) hv).2.1]
  rfl
theorem wE (hT:eQ ts)(hl:ts.length=n):∀d k:Nat,n+1-k<=d->∀σ:Sg,k<=σ.k->σ.k<=n->XpC M0 ts p b off cap n En σ/\∀l,l<=6->RwC M0 ts p b off cap n En l σ
 | 0,k,hd,σ,h1,h2=>absurd h1 zac
 | d+1,k,hd,σ0,hk0,hn0=>by
  have IH:=wE hT hl d (k+1) zac
  have hF:∀σ:Sg,k<=σ.k->σ.k<=n->FcC M0 ts p b off cap n En σ:=fun σ h1 h2=>vG σ h2 hT fun σ' h3 h4=>(IH σ' zac h3).1
  have r6:∀σ:Sg,k<=σ.k->σ.k<=n->RwC M0 ts p b off cap n En 6 σ:=fun σ h1 h2 w hS=>by
   have e:rd M0 (.row 6) (ts.drop σ.k)=factor M0 (rd M0 .ex) (ts.drop σ.k):=by rw[fK];simp only[Pa.step];rw[if_pos zah]
   obtain⟨a1,a2⟩:=eD (ts:=ts) (En:=En) (σ:=σ) (o:=rd M0 (.row 6)) (o':=factor M0 (rd M0 .ex)) e
   rw[a1,a2]
   exact zt ts p b off cap n σ.k En σ.E σ.O w hS h2 _ _ _ _ (hF σ h1 h2)
  have r5:∀σ:Sg,k<=σ.k->σ.k<=n->RwC M0 ts p b off cap n En 5 σ:=fun σ h1 h2=>gW M0 ts p b off cap n En 5 zah σ h2 fun σ' h3 h4=>r6 σ' zac h3
  have r4:∀σ:Sg,k<=σ.k->σ.k<=n->RwC M0 ts p b off cap n En 4 σ:=fun σ h1 h2=>gW M0 ts p b off cap n En 4 zah σ h2 fun σ' h3 h4=>r5 σ' zac h3
  have r3:∀σ:Sg,k<=σ.k->σ.k<=n->RwC M0 ts p b off cap n En 3 σ:=fun σ h1 h2=>wF M0 ts p b off cap n En 3 rfl σ h2 fun σ' h3 h4=>r4 σ' zac h3
  have r2:∀σ:Sg,k<=σ.k->σ.k<=n->RwC M0 ts p b off cap n En 2 σ:=fun σ h1 h2 w hS=>by
   by_cases hx:σ.E≠0\/isW oH (ts.drop σ.k)=false
   ·have e:σ.run ts En (rd M0 (.row 2))=σ.run ts En (rd M0 (.row 3))/\σ.val ts (rd M0 (.row 2))=σ.val ts (rd M0 (.row 3)):=by
     rcases hx with h|h
     ·rw[dx h,dx h,dZ h,dZ h];exact⟨rfl,rfl⟩
     ·refine eD (ts:=ts) (En:=En) (σ:=σ) (o:=rd M0 (.row 2)) (o':=rd M0 (.row 3)) ?_
      rw[fK]
      simp only[Pa.step]
      rw[if_neg zah,if_pos trivial,if_neg (by rw[h];simp)]
    rw[e.1,e.2]
    exact yX ts p b off cap n σ.k En σ.E σ.O w hS h2 _ _ _ _ (fun w1 hS1=>iY oH σ hx w1 hS1) (r3 σ h1 h2)
   ·obtain⟨k',E,O⟩:=σ
    simp only[not_or,Decidable.not_not,Bool.not_eq_false] at hx h1 h2 |-
    obtain⟨rfl,hw⟩:=hx
    have hkt:k'<ts.length:=by
     rcases Nat.lt_or_ge k' ts.length with z|z
     ·exact z
     ·rw[List.drop_eq_nil_of_le z] at hw;cases hw
    obtain⟨a1,a2⟩:=Ba (M:=M0) (En:=En) k' O hkt hw
    rw[a1,a2,hl]
    exact zw ts p b off cap n k' En O w hS zac hw _ _ _ _ ((IH ⟨k'+1,0,O⟩ (by show k+1<=k'+1;omega) (by show k'+1<=n;omega)).2 2 zah)
  have r1:∀σ:Sg,k<=σ.k->σ.k<=n->RwC M0 ts p b off cap n En 1 σ:=fun σ h1 h2=>gW M0 ts p b off cap n En 1 zah σ h2 fun σ' h3 h4=>r2 σ' zac h3
  have r0:∀σ:Sg,k<=σ.k->σ.k<=n->RwC M0 ts p b off cap n En 0 σ:=fun σ h1 h2=>gW M0 ts p b off cap n En 0 zah σ h2 fun σ' h3 h4=>r1 σ' zac h3
  refine⟨fun w hS=>?_,fun l hl=>?_⟩
  ·by_cases hx:σ0.E≠0\/isW kIf (ts.drop σ0.k)=false
   ·have e:σ0.run ts En (rd M0 .ex)=σ0.run ts En (rd M0 (.row 0))/\σ0.val ts (rd M0 .ex)=σ0.val ts (rd M0 (.row 0)):=by
     rcases hx with h|h
     ·rw[dx h,dx h,dZ h,dZ h];exact⟨rfl,rfl⟩
     ·refine eD (ts:=ts) (En:=En) (σ:=σ0) (o:=rd M0 .ex) (o':=rd M0 (.row 0)) ?_
      rw[fK]
      simp only[Pa.step]
      rw[if_neg (by rw[h];simp)]
    rw[e.1,e.2]
    exact ve ts p b off cap n σ0.k En σ0.E σ0.O w hS hn0 _ _ _ _ (fun w1 hS1=>iY kIf σ0 hx w1 hS1) (r0 σ0 hk0 hn0)
   ·obtain⟨k',E,O⟩:=σ0
    simp only[not_or,Decidable.not_not,Bool.not_eq_false] at hx hk0 hn0 |-
    obtain⟨rfl,hw⟩:=hx
    have hkt:k'<ts.length:=by
     rcases Nat.lt_or_ge k' ts.length with z|z
     ·exact z
     ·rw[List.drop_eq_nil_of_le z] at hw;cases hw
    exact yw M0 ts p b off cap n k' En O w hS zac hw fun σ' h3 h4=>(IH σ' zac h3).1
  ·have:l=0\/l=1\/l=2\/l=3\/l=4\/l=5\/l=6:=by omega
   rcases this with rfl|rfl|rfl|rfl|rfl|rfl|rfl
   ·exact r0 σ0 hk0 hn0
   ·exact r1 σ0 hk0 hn0
   ·exact r2 σ0 hk0 hn0
   ·exact r3 σ0 hk0 hn0
   ·exact r4 σ0 hk0 hn0
   ·exact r5 σ0 hk0 hn0
   ·exact r6 σ0 hk0 hn0
theorem qY (hT:eQ ts)(σ:Sg)(hk:σ.k<=n)(w:World)(hS:SlT w p b off n ts):Calls Tryz.prog 26 #[.agg #[.slice p n cap,zI zL (σ.k:Nat),zI zL En,zI zL σ.E,zI zL σ.O]] w fun e w'=>bO w ts p n cap En ((σ.run ts En (rd M0 .ex)).k:Nat) (σ.run ts En (rd M0 .ex)).E (σ.run ts En (rd M0 .ex)).O (σ.val ts (rd M0 .ex)) e w' :=
 (wE hT hS.ln (n+1) 0 zac σ (Nat.zero_le _) hk).1 w hS
end
end Go.Proofs.YtnjfolljbfkojaaGreatDoor
