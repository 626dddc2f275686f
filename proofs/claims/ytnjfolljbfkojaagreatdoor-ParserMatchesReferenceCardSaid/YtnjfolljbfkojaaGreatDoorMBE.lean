import Derived.Test.YtnjfolljbfkojaaGreatDoorMBD
set_option maxRecDepth 100000
set_option maxHeartbeats 20000000
namespace Go.Proofs.YtnjfolljbfkojaaGreatDoor
open Go.Value renaming int→zI
open Go.IntKind renaming i64→zL
open Go.Lib renaming hid→zH
open Go.RowKit Lx
def Bx (w0 w1:World):Prop:=RowKit.Below w0.heap.size w0 w1/\Box w1 w0.heap.size (zI zL 0) (zI zL 0) (.string ⟨#[]⟩) (zI zL 0) (zI zL 0)
theorem Bx.start (w:World):Bx w (w.alloc gD):=⟨(Below.refl _ _).alloc (Nat.le_refl _) _,Box.new w _ _ _ _ _ _⟩
theorem Bx.bel {w0 w1 w2:World}(h:Bx w0 w1)(k:RowKit.Below w1.heap.size w1 w2):Bx w0 w2 :=
 ⟨h.1.trans (k.mono h.1.size),h.2.of (k.block _ (World.block_lt_of_cell? _ _ h.2.1.1))⟩
theorem yx {p:UInt8->Bool}{l:List UInt8}:(∀k,k<(l.takeWhile p).length->p (l.getD k 0)=true)/\((l.takeWhile p).length<l.length->p (l.getD (l.takeWhile p).length 0)=false):=by
 have hta:(l.take (l.takeWhile p).length).all p=true:=by rw[dA];exact kS l
 have hle:(l.takeWhile p).length<=l.length:=bG l
 refine⟨fun i hi=>?_,fun h=>?_⟩
 ·have hi2:i<(l.take (l.takeWhile p).length).length:=by rw[List.length_take];omega
  exact Ch
 ·cases hd:p (l.getD (l.takeWhile p).length 0) with
  | false=>rfl
  | true =>
   exfalso
   have h1:=mf h hta hd
   have q:∀(a b:List UInt8),a.all p=true->a <+: (a++b).takeWhile p:=by
    intro a b ha
    exact CF
   have:=q _ (l.drop ((l.takeWhile p).length+1)) h1
   rw[List.take_append_drop] at this
   have hl:=this.length_le
   rw[List.length_take] at hl
   omega
theorem jX (s:ByteArray)(i n:Nat){l:List UInt8}(hl:s.data.toList.drop i=l):s.extract i (i+n)=bs (l.take n):=by
 subst hl
 apply ByteArray.ext;apply Array.ext';simp[bs,List.take_drop]
theorem oC (s:ByteArray)(i:Nat)(w:World)(l:List UInt8)(hl:s.data.toList.drop i=l)(hi:i<s.size)(hs:s.size<=8000)(h1:dgt s[i]=false)(h2:ltr s[i]=false)(k:Nat)(hk:sgn l=k)(h0:k=0) :
  Calls Tryz.prog 39 #[.string s,zI zL i] w fun e w'=>e = .returned (.tuple #[.agg #[zI zL 0,zI zL 0,.string ⟨#[]⟩,zI zL 0,zI zL 0],zI zL 0,zI zL 10])/\RowKit.Below w.heap.size w w':=by
 have hiz:(i:Int)<(s.size:Int):=zac
 have hll:l.length=s.size-i:=zcj
 have KD:=zH (aZ s[i])
 have KL:=zH (bT s[i])
 have B1:=zH (Bx.start w)
 have KS:Hid (∀w:World,Calls Tryz.prog 63 #[.string (s.extract i s.size)] w fun e w'=>e = .returned (zI zL (k:Nat))/\w'=w):=fun w=>by
  obtain⟨c,r,hcr,_⟩:=dH hi hl
  exact C9
 rw[h1] at KD
 rw[h2] at KL
 subst h0
 clear h1 h2 hk hl hll
 go_enter Tryz.func39,Tryz.ntmps39
 go_wp2_with fail
 change Calls Tryz.prog 61 #[.int .u8 s[i].toNat] (w.alloc gD) fun e w'=>_
 generalize w.alloc gD=w1 at *
 refine(KD.out _).mono ?_
 rintro _ _ ⟨rfl,rfl⟩
 have c:=B1.out.2
 obtain⟨⟨c0,c1,c2,c3,c4⟩,f0,f1,f2,f3,f4⟩:=c
 go_wp2_with (first|((with_reducible refine(KL.out _).mono ?_);rintro _ _ ⟨rfl,rfl⟩)|(refine(KS.out _).mono ?_;rintro _ _ ⟨rfl,rfl⟩))
 exact bodyPost_ret (v:= .tuple #[.agg #[zI zL 0,zI zL 0,.string ⟨#[]⟩,zI zL 0,zI zL 0],zI zL 0,zI zL 10]) zcn rfl ⟨rfl,zbe⟩
theorem nQ (s:ByteArray)(i:Nat)(w:World)(l:List UInt8)(hl:s.data.toList.drop i=l)(hi:i<s.size)(hs:s.size<=8000)(h1:dgt s[i]=false)(h2:ltr s[i]=false)(k:Nat)(hk:sgn l=k)(h0:0<k) :
  Calls Tryz.prog 39 #[.string s,zI zL i] w fun e w'=>e = .returned (.tuple #[.agg #[zI zL 3,zI zL i,.string (bs (l.take k)),zI zL 0,zI zL 0],zI zL (k:Nat),zI zL 0])/\RowKit.Below w.heap.size w w':=by
 have hiz:(i:Int)<(s.size:Int):=zac
 have hll:l.length=s.size-i:=zcj
 have KD:=zH (aZ s[i])
 have KL:=zH (bT s[i])
 have B1:=zH (Bx.start w)
 have KS:Hid (∀w:World,Calls Tryz.prog 63 #[.string (s.extract i s.size)] w fun e w'=>e = .returned (zI zL (k:Nat))/\w'=w):=fun w=>by
  obtain⟨c,r,hcr,_⟩:=dH hi hl
  exact C9
 rw[h1] at KD
 rw[h2] at KL
 have hkl:k<=l.length:=by rw[<-hk];exact ui l
 have e1:=jX s i k hl
 obtain⟨T,hT⟩:∃T,T=bs (l.take k):=⟨_,rfl⟩
 rw[<-hT] at e1 |-
 have hik:i+k<=s.size:=zac
 have hk0:((k:Int)==0)=false:=zai
 clear h1 h2 hk hl hll hkl hT
 go_enter Tryz.func39,Tryz.ntmps39
 go_wp2_with fail
 change Calls Tryz.prog 61 #[.int .u8 s[i].toNat] (w.alloc gD) fun e w'=>_
 generalize w.alloc gD=w1 at *
 refine(KD.out _).mono ?_
 rintro _ _ ⟨rfl,rfl⟩
 have c:=B1.out.2
 obtain⟨⟨c0,c1,c2,c3,c4⟩,f0,f1,f2,f3,f4⟩:=c
 go_wp2_with (first|((with_reducible refine(KL.out _).mono ?_);rintro _ _ ⟨rfl,rfl⟩)|(refine(KS.out _).mono ?_;rintro _ _ ⟨rfl,rfl⟩))
 exact bodyPost_ret (v:= .tuple #[.agg #[zI zL 3,zI zL i,.string T,zI zL 0,zI zL 0],zI zL (k:Nat),zI zL 0]) zcn rfl ⟨rfl,zbe⟩
theorem nT (s:ByteArray)(i:Nat)(w:World)(l:List UInt8)(hl:s.data.toList.drop i=l)(hi:i<s.size)(hs:s.size<=8000)(h1:dgt s[i]=false)(h2:ltr s[i]=true)(x:List UInt8)(hx:l.takeWhile wrd=x)(h16:16<x.length) :
  Calls Tryz.prog 39 #[.string s,zI zL i] w fun e w'=>e = .returned (.tuple #[.agg #[zI zL 0,zI zL 0,.string ⟨#[]⟩,zI zL 0,zI zL 0],zI zL 0,zI zL 2])/\RowKit.Below w.heap.size w w':=by
 have hiz:(i:Int)<(s.size:Int):=zac
 have hll:l.length=s.size-i:=zcj
 have KD:=zH (aZ s[i])
 have KL:=zH (bT s[i])
 have B1:=zH (Bx.start w)
 rw[h1] at KD
 rw[h2] at KL
 have hget:Hid (∀k (h:i+k<s.size),s[i+k]=l.getD k 0):=fun k h=>by
  rw[bS s (i+k) h,<-hl,List.getD_eq_getElem?_getD,List.getD_eq_getElem?_getD,List.getElem?_drop]
 obtain⟨i1,i2⟩:=yx (p:=wrd) (l:=l)
 have hmle:(l.takeWhile wrd).length<=l.length:=bG l
 have htk:l.take (l.takeWhile wrd).length=l.takeWhile wrd:=dA l
 rw[hx] at i1 i2 hmle htk
 have e1:=jX s i x.length hl
 rw[htk] at e1
 have I1:=zH i1
 have I2:=zH i2
 obtain⟨m,hm⟩:∃m,m=x.length:=⟨_,rfl⟩
 rw[<-hm] at I1 I2 hmle e1
 have him:i+m<=s.size:=zac
 have HLL:=zH hll
 have HM:=zH hm
 have d16:decide ((16:Int)<(m:Int))=true:=decide_eq_true zac
 clear h1 h2 hl hll hm hx i1 i2 htk
 go_enter Tryz.func39,Tryz.ntmps39
 go_wp2_with fail
 change Calls Tryz.prog 61 #[.int .u8 s[i].toNat] (w.alloc gD) fun e w'=>_
 generalize w.alloc gD=w1 at *
 refine(KD.out _).mono ?_
 rintro _ _ ⟨rfl,rfl⟩
 have c:=B1.out.2
 obtain⟨⟨c0,c1,c2,c3,c4⟩,f0,f1,f2,f3,f4⟩:=c
 go_wp2_with ((with_reducible refine(KL.out _).mono ?_);rintro _ _ ⟨rfl,rfl⟩)
 rename World=>w1
 go_loopg [9] m (fun g s9 wr=>∃k:Nat,s9 = zI zL k/\k<=m/\m-k<=g/\wr=w1)
 case atStart=>exact⟨0,rfl,zac,zac,rfl⟩
 case round =>
  obtain⟨k,rfl,hk,hkg,rfl⟩:=hrel
  by_cases hlt:k<m
  ·exact zz65
  ·obtain rfl:k=m:=by omega
   clear hk hkg
   by_cases hks:i+k<s.size
   ·have hltz:(i:Int)+(k:Int)<(s.size:Int):=by omega
    have KP:Hid (∀w:World,Calls Tryz.prog 64 #[.int .u8 s[i+k].toNat,.bool false] w fun e w'=>e = .returned (.bool false)/\w'=w):=fun w=>by
     have:=eB s[i+k] false w
     rw[show prt false s[i+k]=false from zck] at this
     exact this
    go_wp2_with (refine(KP.out _).mono ?_;rintro _ _ ⟨rfl,rfl⟩)
    exact zz91
   ·have hltz:¬(i:Int)+(k:Int)<(s.size:Int):=by omega
    go_wp2_with fail
    exact zz91
theorem mZ (s:ByteArray)(i:Nat)(w:World)(l:List UInt8)(hl:s.data.toList.drop i=l)(hi:i<s.size)(hs:s.size<=8000)(h1:dgt s[i]=false)(h2:ltr s[i]=true)(x:List UInt8)(hx:l.takeWhile wrd=x)(h16:x.length<=16) :
  Calls Tryz.prog 39 #[.string s,zI zL i] w fun e w'=>e = .returned (.tuple #[.agg #[zI zL 1,zI zL i,.string (bs x),zI zL 0,zI zL 0],zI zL (x.length:Nat),zI zL 0])/\RowKit.Below w.heap.size w w':=by
 have hiz:(i:Int)<(s.size:Int):=zac
 have hll:l.length=s.size-i:=zcj
 have KD:=zH (aZ s[i])
 have KL:=zH (bT s[i])
 have B1:=zH (Bx.start w)
 rw[h1] at KD
 rw[h2] at KL
 have hget:Hid (∀k (h:i+k<s.size),s[i+k]=l.getD k 0):=fun k h=>by
  rw[bS s (i+k) h,<-hl,List.getD_eq_getElem?_getD,List.getD_eq_getElem?_getD,List.getElem?_drop]
 obtain⟨i1,i2⟩:=yx (p:=wrd) (l:=l)
 have hmle:(l.takeWhile wrd).length<=l.length:=bG l
 have htk:l.take (l.takeWhile wrd).length=l.takeWhile wrd:=dA l
 rw[hx] at i1 i2 hmle htk
 have e1:=jX s i x.length hl
 rw[htk] at e1
 have I1:=zH i1
 have I2:=zH i2
 obtain⟨m,hm⟩:∃m,m=x.length:=⟨_,rfl⟩
 rw[<-hm] at I1 I2 hmle e1
 have him:i+m<=s.size:=zac
 have HLL:=zH hll
 have HM:=zH hm
 have d16:decide ((16:Int)<(m:Int))=false:=decide_eq_false zac
 rw[<-hm]
 clear h1 h2 hl hll hm hx i1 i2 htk
 go_enter Tryz.func39,Tryz.ntmps39
 go_wp2_with fail
 change Calls Tryz.prog 61 #[.int .u8 s[i].toNat] (w.alloc gD) fun e w'=>_
 generalize w.alloc gD=w1 at *
 refine(KD.out _).mono ?_
 rintro _ _ ⟨rfl,rfl⟩
 have c:=B1.out.2
 obtain⟨⟨c0,c1,c2,c3,c4⟩,f0,f1,f2,f3,f4⟩:=c
 go_wp2_with ((with_reducible refine(KL.out _).mono ?_);rintro _ _ ⟨rfl,rfl⟩)
 rename World=>w1
 go_loopg [9] m (fun g s9 wr=>∃k:Nat,s9 = zI zL k/\k<=m/\m-k<=g/\wr=w1)
 case atStart=>exact⟨0,rfl,zac,zac,rfl⟩
 case round =>
  obtain⟨k,rfl,hk,hkg,rfl⟩:=hrel
  by_cases hlt:k<m
  ·exact zz65
  ·obtain rfl:k=m:=by omega
   clear hk hkg
   by_cases hks:i+k<s.size
   ·have hltz:(i:Int)+(k:Int)<(s.size:Int):=by omega
    have KP:Hid (∀w:World,Calls Tryz.prog 64 #[.int .u8 s[i+k].toNat,.bool false] w fun e w'=>e = .returned (.bool false)/\w'=w):=fun w=>by
     have:=eB s[i+k] false w
     rw[show prt false s[i+k]=false from zck] at this
     exact this
    go_wp2_with (refine(KP.out _).mono ?_;rintro _ _ ⟨rfl,rfl⟩)
    exact zz89
   ·have hltz:¬(i:Int)+(k:Int)<(s.size:Int):=by omega
    go_wp2_with fail
    exact zz89
theorem pM (s:ByteArray)(i:Nat)(w:World)(l:List UInt8)(hl:s.data.toList.drop i=l)(hi:i<s.size)(hs:s.size<=8000)(h1:dgt s[i]=true)(x:List UInt8)(hx:l.takeWhile nmb=x)(a b:Int)(hv:bN x=(a,b,0)) :
  Calls Tryz.prog 39 #[.string s,zI zL i] w fun e w'=>e = .returned (.tuple #[.agg #[zI zL 2,zI zL i,.string ⟨#[]⟩,zI zL a,zI zL b],zI zL (x.length:Nat),zI zL 0])/\RowKit.Below w.heap.size w w':=by
 have hiz:(i:Int)<(s.size:Int):=zac
 have hll:l.length=s.size-i:=zcj
 have KD:=zH (aZ s[i])
 have KL:=zH (bT s[i])
 have B1:=zH (Bx.start w)
 rw[h1] at KD
 have hget:Hid (∀k (h:i+k<s.size),s[i+k]=l.getD k 0):=fun k h=>by
  rw[bS s (i+k) h,<-hl,List.getD_eq_getElem?_getD,List.getD_eq_getElem?_getD,List.getElem?_drop]
 obtain⟨i1,i2⟩:=yx (p:=nmb) (l:=l)
 have hmle:(l.takeWhile nmb).length<=l.length:=bG l
 have htk:l.take (l.takeWhile nmb).length=l.takeWhile nmb:=dA l
 rw[hx] at i1 i2 hmle htk
 have e1:=jX s i x.length hl
 rw[htk] at e1
 have I1:=zH i1
 have I2:=zH i2
 obtain⟨m,hm⟩:∃m,m=x.length:=⟨_,rfl⟩
 rw[<-hm] at I1 I2 hmle e1
 have him:i+m<=s.size:=zac
 have HLL:=zH hll
 have HM:=zH hm
 have KV:Hid (∀w:World,Calls Tryz.prog 65 #[.string (bs x)] w fun e w'=>e = .returned (.tuple #[.agg #[zI zL (bN x).1,zI zL (bN x).2.1],zI zL (bN x).2.2])/\RowKit.Below w.heap.size w w'):=fun w=>mR (bs x) x w (eX x) (by rw[aP];omega)
 rw[hv] at KV
 rw[<-hm]
 clear h1 hl hll hm hx i1 i2 htk
 clear KL hv
 go_enter Tryz.func39,Tryz.ntmps39
 go_wp2_with fail
 change Calls Tryz.prog 61 #[.int .u8 s[i].toNat] (w.alloc gD) fun e w'=>_
 generalize w.alloc gD=w1 at *
 refine(KD.out _).mono ?_
 rintro _ _ ⟨rfl,rfl⟩
 go_wp2_with fail
 rename World=>w1
 go_loopg [9] m (fun g s9 wr=>∃k:Nat,s9 = zI zL k/\k<=m/\m-k<=g/\wr=w1)
 case atStart=>exact⟨0,rfl,zac,zac,rfl⟩
 case round =>
  obtain⟨k,rfl,hk,hkg,rfl⟩:=hrel
  by_cases hlt:k<m
  ·exact zz66
  ·obtain rfl:k=m:=by omega
   clear hk hkg
   by_cases hks:i+k<s.size
   ·have hltz:(i:Int)+(k:Int)<(s.size:Int):=by omega
    have KP:Hid (∀w:World,Calls Tryz.prog 64 #[.int .u8 s[i+k].toNat,.bool true] w fun e w'=>e = .returned (.bool false)/\w'=w):=fun w=>by
     have:=eB s[i+k] true w
     rw[show prt true s[i+k]=false from zck] at this
     exact this
    go_wp2_with (refine(KP.out _).mono ?_;rintro _ _ ⟨rfl,rfl⟩)
    exact zz48
   ·have hltz:¬(i:Int)+(k:Int)<(s.size:Int):=by omega
    go_wp2_with fail
    exact zz48
theorem oK (s:ByteArray)(i:Nat)(w:World)(l:List UInt8)(hl:s.data.toList.drop i=l)(hi:i<s.size)(hs:s.size<=8000)(h1:dgt s[i]=true)(x:List UInt8)(hx:l.takeWhile nmb=x)(a b E:Int)(hv:bN x=(a,b,E))(hE:E≠0) :
  Calls Tryz.prog 39 #[.string s,zI zL i] w fun e w'=>e = .returned (.tuple #[.agg #[zI zL 0,zI zL 0,.string ⟨#[]⟩,zI zL 0,zI zL 0],zI zL 0,zI zL E])/\RowKit.Below w.heap.size w w':=by
 have hiz:(i:Int)<(s.size:Int):=zac
 have hll:l.length=s.size-i:=zcj
 have KD:=zH (aZ s[i])
 have KL:=zH (bT s[i])
 have B1:=zH (Bx.start w)
 rw[h1] at KD
 have hget:Hid (∀k (h:i+k<s.size),s[i+k]=l.getD k 0):=fun k h=>by
  rw[bS s (i+k) h,<-hl,List.getD_eq_getElem?_getD,List.getD_eq_getElem?_getD,List.getElem?_drop]
 obtain⟨i1,i2⟩:=yx (p:=nmb) (l:=l)
 have hmle:(l.takeWhile nmb).length<=l.length:=bG l
 have htk:l.take (l.takeWhile nmb).length=l.takeWhile nmb:=dA l
 rw[hx] at i1 i2 hmle htk
 have e1:=jX s i x.length hl
 rw[htk] at e1
 have I1:=zH i1
 have I2:=zH i2
 obtain⟨m,hm⟩:∃m,m=x.length:=⟨_,rfl⟩
 rw[<-hm] at I1 I2 hmle e1
 have him:i+m<=s.size:=zac
 have HLL:=zH hll
 have HM:=zH hm
 have KV:Hid (∀w:World,Calls Tryz.prog 65 #[.string (bs x)] w fun e w'=>e = .returned (.tuple #[.agg #[zI zL (bN x).1,zI zL (bN x).2.1],zI zL (bN x).2.2])/\RowKit.Below w.heap.size w w'):=fun w=>mR (bs x) x w (eX x) (by rw[aP];omega)
 rw[hv] at KV
 have hE1:(E==0)=false:=zcv
 have hE2:(E != 0)=true:=zcv
 clear h1 hl hll hm hx i1 i2 htk
 clear KL hv hE
 go_enter Tryz.func39,Tryz.ntmps39
 go_wp2_with fail
 change Calls Tryz.prog 61 #[.int .u8 s[i].toNat] (w.alloc gD) fun e w'=>_
 generalize w.alloc gD=w1 at *
 refine(KD.out _).mono ?_
 rintro _ _ ⟨rfl,rfl⟩
 go_wp2_with fail
 rename World=>w1
 go_loopg [9] m (fun g s9 wr=>∃k:Nat,s9 = zI zL k/\k<=m/\m-k<=g/\wr=w1)
 case atStart=>exact⟨0,rfl,zac,zac,rfl⟩
 case round =>
  obtain⟨k,rfl,hk,hkg,rfl⟩:=hrel
  by_cases hlt:k<m
  ·exact zz66
  ·obtain rfl:k=m:=by omega
   clear hk hkg
   by_cases hks:i+k<s.size
   ·have hltz:(i:Int)+(k:Int)<(s.size:Int):=by omega
    have KP:Hid (∀w:World,Calls Tryz.prog 64 #[.int .u8 s[i+k].toNat,.bool true] w fun e w'=>e = .returned (.bool false)/\w'=w):=fun w=>by
     have:=eB s[i+k] true w
     rw[show prt true s[i+k]=false from zck] at this
     exact this
    go_wp2_with (refine(KP.out _).mono ?_;rintro _ _ ⟨rfl,rfl⟩)
    exact zz50
   ·have hltz:¬(i:Int)+(k:Int)<(s.size:Int):=by omega
    go_wp2_with fail
    exact zz50
end Go.Proofs.YtnjfolljbfkojaaGreatDoor
