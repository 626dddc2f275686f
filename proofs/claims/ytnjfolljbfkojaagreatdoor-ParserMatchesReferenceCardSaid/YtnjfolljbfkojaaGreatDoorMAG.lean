import Derived.Shelf.LaysM
import Derived.Test.YtnjfolljbfkojaaGreatDoorMAC
set_option maxRecDepth 100000
set_option maxHeartbeats 20000000
namespace Go.Proofs.YtnjfolljbfkojaaGreatDoor
open Go.Value renaming int→zI
open Go.IntKind renaming i64→zL
open Go.Lib renaming hid→zH
open Go.RowKit Lx
theorem bS (T:ByteArray)(i:Nat)(h:i<T.size):T[i]=T.data.toList.getD i 0:=by
 rw[List.getD_eq_getElem?_getD,List.getElem?_eq_getElem zbt]
 simp[ByteArray.getElem_eq_getElem_data]
theorem i2 {a b:Nat}:((a:Int)==(b:Int))=decide (a=b):=by rw[Bool.eq_iff_iff];simp;omega
theorem fT (c:UInt8)(w:World):Calls Tryz.prog 89 #[.int .u8 c.toNat] w fun e w'=>e = .returned (.bool (ltr c))/\w'=w:=by
 unfold ltr
 generalize c.toNat=n
 by_cases h:97<=n
 ·have d1:decide ((97:Int)<=(n:Int))=true:=by simp;omega
  go_enter Tryz.func89,Tryz.ntmps89
  exact xM
 ·have d1:decide ((97:Int)<=(n:Int))=false:=by simp;omega
  go_enter Tryz.func89,Tryz.ntmps89
  exact xM
theorem fu (c:UInt8)(w:World):Calls Tryz.prog 91 #[.int .u8 c.toNat] w fun e w'=>e = .returned (.bool (dgt c))/\w'=w:=by
 unfold dgt
 generalize c.toNat=n
 by_cases h:48<=n
 ·have d1:decide ((48:Int)<=(n:Int))=true:=by simp;omega
  go_enter Tryz.func91,Tryz.ntmps91
  exact xM
 ·have d1:decide ((48:Int)<=(n:Int))=false:=by simp;omega
  go_enter Tryz.func91,Tryz.ntmps91
  exact xM
theorem bT (c:UInt8)(w:World):Calls Tryz.prog 62 #[.int .u8 c.toNat] w fun e w'=>e = .returned (.bool (ltr c))/\w'=w:=by
 unfold ltr
 generalize c.toNat=n
 by_cases h:97<=n
 ·have d1:decide ((97:Int)<=(n:Int))=true:=by simp;omega
  go_enter Tryz.func62,Tryz.ntmps62
  exact xM
 ·have d1:decide ((97:Int)<=(n:Int))=false:=by simp;omega
  go_enter Tryz.func62,Tryz.ntmps62
  exact xM
theorem aZ (c:UInt8)(w:World):Calls Tryz.prog 61 #[.int .u8 c.toNat] w fun e w'=>e = .returned (.bool (dgt c))/\w'=w:=by
 unfold dgt
 generalize c.toNat=n
 by_cases h:48<=n
 ·have d1:decide ((48:Int)<=(n:Int))=true:=by simp;omega
  go_enter Tryz.func61,Tryz.ntmps61
  exact xM
 ·have d1:decide ((48:Int)<=(n:Int))=false:=by simp;omega
  go_enter Tryz.func61,Tryz.ntmps61
  exact xM
theorem ow (c:UInt8)(w:World):Calls Tryz.prog 87 #[.int .u8 c.toNat] w fun e w'=>e = .returned (.bool (lin c))/\w'=w:=by
 unfold lin
 generalize c.toNat=n
 go_enter Tryz.func87,Tryz.ntmps87
 exact xM
theorem jb (c:UInt8)(w:World):Calls Tryz.prog 105 #[.int .u8 c.toNat] w fun e w'=>e = .returned (.bool (wrd c))/\w'=w:=by
 have K:=zH (fT c)
 have K2:=zH (fu c)
 obtain⟨r,hr⟩:∃r,r=wrd c:=⟨_,rfl⟩
 rw[<-hr]
 unfold wrd at hr
 have HR:=zH hr
 clear hr
 generalize ltr c=a at *
 generalize dgt c=b at *
 generalize c.toNat=n at *
 cases a
 ·cases b
  ·go_enter Tryz.func105,Tryz.ntmps105
   go_wp2_with (first|(refine(K.out _).mono ?_;rintro _ _ ⟨rfl,rfl⟩)|(refine(K2.out _).mono ?_;rintro _ _ ⟨rfl,rfl⟩))
   go_ret
   exact⟨aD (by rw[HR.out];simp only[Bool.false_or];rw[Bool.eq_iff_iff];simp;omega),rfl⟩
  ·exact Dv
 ·exact Dv
theorem kL (c:UInt8)(w:World):Calls Tryz.prog 106 #[.int .u8 c.toNat] w fun e w'=>e = .returned (.bool (nmb c))/\w'=w:=by
 have K:=zH (jb c)
 obtain⟨r,hr⟩:∃r,r=nmb c:=⟨_,rfl⟩
 rw[<-hr]
 unfold nmb at hr
 have HR:=zH hr
 clear hr
 generalize wrd c=a at *
 generalize c.toNat=n at *
 cases a
 ·go_enter Tryz.func106,Tryz.ntmps106
  go_wp2_with (refine(K.out _).mono ?_;rintro _ _ ⟨rfl,rfl⟩)
  go_ret
  exact⟨aD (by rw[HR.out];simp only[Bool.false_or];rw[Bool.eq_iff_iff];simp;omega),rfl⟩
 ·go_enter Tryz.func106,Tryz.ntmps106
  go_wp2_with (refine(K.out _).mono ?_;rintro _ _ ⟨rfl,rfl⟩)
  go_ret
  exact⟨aD zbu,rfl⟩
theorem uU {p:UInt8->Bool}{l:List UInt8}{k:Nat}(hk:k<l.length)(h1:(l.take k).all p=true)(h2:p (l.getD k 0)=false):l.takeWhile p=l.take k:=by
 have e:l=l.take k++l.drop k:=(List.take_append_drop k l).symm
 rw[e,nV _ _ h1]
 ·rw[<-e]
 ·intro c hc
  rw[List.head?_drop,List.getElem?_eq_getElem hk] at hc
  simp only[Option.some.injEq] at hc
  rw[List.getD_eq_getElem?_getD,List.getElem?_eq_getElem hk,Option.getD_some,hc] at h2
  exact h2
theorem lS {p:UInt8->Bool}{l:List UInt8}(h1:l.all p=true):l.takeWhile p=l:=by
 have:=nV (p:=p) l [] h1 (fun c hc=>by simp at hc)
 rwa [List.append_nil] at this
theorem mf {p:UInt8->Bool}{l:List UInt8}{k:Nat}(hk:k<l.length)(h1:(l.take k).all p=true)(h2:p (l.getD k 0)=true):(l.take (k+1)).all p=true:=by
 rw[List.take_succ_eq_append_getElem hk,List.all_append,h1]
 rw[List.getD_eq_getElem?_getD,List.getElem?_eq_getElem hk,Option.getD_some] at h2
 simp[h2]
def Says (F:FuncId)(p:UInt8->Bool):Prop:=(∀(c:UInt8) (w:World),Calls Tryz.prog F #[.int .u8 c.toNat] w fun e w'=>e = .returned (.bool (p c))/\w'=w) /\
 ∀(args:Array Value) (w:World),(callFunc F args).run Tryz.prog w = .ok (.enter F args) w
theorem wY:Says 87 lin:=⟨ow,fun _ _=> zab⟩
theorem nI:Says 105 wrd:=⟨jb,fun _ _=> zab⟩
theorem fE:Says 106 nmb:=⟨kL,fun _ _=> zab⟩
theorem rC:Says 91 dgt:=⟨fu,fun _ _=> zab⟩
theorem iK (F:FuncId)(p:UInt8->Bool)(hF:Says F p)(s:ByteArray)(w:World)(hs:s.size<=281474976710656) :
  Calls Tryz.prog 101 #[.string s,.func (.func F) #[] #[]] w fun e w'=>e = .returned (.string (bs (s.data.toList.takeWhile p)))/\w'=w:=by
 have K:=zH hF.1
 have hE:=hF.2
 obtain⟨l,hl⟩:∃l,l=s.data.toList:=⟨_,rfl⟩
 have hsz:s.size=l.length:=by rw[hl];simp
 have hget:Hid (∀i (h:i<s.size),s[i]=l.getD i 0):=fun i h=>by rw[hl];exact bS s i h
 have HS:Hid (s=bs l):=by show _=_;rw[hl];exact Fs s
 rw[<-hl]
 have HL:=zH hl
 obtain⟨n,hn⟩:∃n,n=s.size:=⟨_,rfl⟩
 have HN:=zH hn
 have HZ:=zH hsz
 clear hF hl hsz
 go_enter Tryz.func101,Tryz.ntmps101
 go_wp2_with fail
 go_loopg [8] n (fun g s8 wr=>∃k:Nat,s8 = zI zL k/\k<=n/\n-k<=g/\Hid ((l.take k).all p=true)/\wr=w)
 case atStart=>exact⟨0,rfl,zac,zac,rfl,rfl⟩
 case round =>
  obtain⟨k,rfl,hk,hkg,HA,rfl⟩:=hrel
  by_cases hlt:k<n
  ·have hltz:(k:Int)<(s.size:Int):=by omega
   have hkl:k<l.length:=by rw[<-HZ.out];omega
   have hks:k<s.size:=zac
   have hgl:=hget.out k hks
   have KC:=zH (K.out s[k])
   cases hp:p s[k] with
   | true =>
    have HA2:Hid ((l.take (k+1)).all p=true):=mf hkl HA.out (by rw[<-hgl];exact hp)
    rw[hp] at KC
    clear hp hgl HA
    go_wp2_with (refine(KC.out _).mono ?_;rintro _ _ ⟨rfl,rfl⟩)
    go_roundg (n-(k+1))
    case measure=>omega
    case rel=>exact⟨k+1,by go_num,zac,zac,HA2,rfl⟩
   | false =>
    have HE:Hid (l.takeWhile p=l.take k):=uU hkl HA.out (by rw[<-hgl];exact hp)
    rw[hp] at KC
    clear hp hgl HA
    go_wp2_with (refine(KC.out _).mono ?_;rintro _ _ ⟨rfl,rfl⟩)
    go_ret
    exact⟨xg (by rw[HE.out,<-jV,<-HS.out]),rfl⟩
  ·have hltz:¬(k:Int)<(s.size:Int):=by omega
   have hkn:k=s.size:=zac
   have HE:Hid (l.takeWhile p=l):=lS (by have:=HA.out;rwa [List.take_of_length_le (by rw[<-HZ.out];omega)] at this)
   clear HA
   go_wp2_with fail
   go_ret
   exact⟨xg (by rw[HE.out,<-HS.out]),rfl⟩
end Go.Proofs.YtnjfolljbfkojaaGreatDoor
namespace Go.Proofs.YtnjfolljbfkojaaGreatDoor
open Go.Value renaming int→zI
open Go.IntKind renaming i64→zL
open Go.Lib renaming hid→zH
open Go.RowKit
theorem Be {W w1:World}(hb:Below W.heap.size W w1):(∀b o,b<W.heap.size->w1.cell? ⟨b,o,none⟩=W.cell? ⟨b,o,none⟩)/\(∀b o,b<W.heap.size->w1.frozen? ⟨b,o,none⟩=W.frozen? ⟨b,o,none⟩) :=
 ⟨fun b o h=>hb.cell (p:=⟨b,o,none⟩) h,fun b o h=>hb.frozen (p:=⟨b,o,none⟩) h⟩
theorem jR (b1 b2:Nat)(hne:¬b1=b2)(x0 x1 x2:Value)(pv:Value)(u:TypeId)(w:World)(h0:w.cell? ⟨b1,0,none⟩=some x0)(h1:w.cell? ⟨b1,1,none⟩=some x1)(h2:w.cell? ⟨b2,0,none⟩=some x2)
  (f0:w.frozen? ⟨b1,0,none⟩=false)(f1:w.frozen? ⟨b1,1,none⟩=false)(f2:w.frozen? ⟨b2,0,none⟩=false) :
  CallsD Tryz.prog 118 #[.pointer (some ⟨b1,0,none⟩),.pointer (some ⟨b2,0,none⟩)] (.panicking [{ v:= .iface u pv,recovered:=false }]) w fun e u' w' =>
   e = .returned (.tuple #[])/\u' = .panicking [{ v:= .iface u pv,recovered:=true }]/\w'=(((w.setCell ⟨b1,0,none⟩ (zI zL 0)).setCell ⟨b1,1,none⟩ (zI zL 0)).setCell ⟨b2,0,none⟩ (zI zL 3)):=by
 refine callsD_of_wpS Tryz.func118 rfl fun c₀ cs hu=>?_
 apply wpS_seq
 apply wpS_region
 simp[wpOpsS,go_sem,recoverD,hu,Tryz.ntmps118,Exit.thenS]
 refine wpS_cond (t:=true) zcs ?_
 simp only[if_true]
 apply wpS_region
 simp[wpOpsS,go_sem,h0,h1,h2,f0,f1,f2,bodyPostS,results,Tryz.results118]
theorem ll (p1 p2:Value)(w:World) :
  CallsD Tryz.prog 118 #[p1,p2] .returning w fun e u' w'=>e = .returned (.tuple #[])/\u' = .returning/\w'=w:=by
 refine callsD_of_wpS Tryz.func118 rfl fun c₀ cs hu=>?_
 apply wpS_seq
 apply wpS_region
 simp[wpOpsS,go_sem,recoverD,hu,Tryz.ntmps118,Exit.thenS]
 refine wpS_cond (t:=false) zcs ?_
 simp only[Bool.false_eq_true,if_false]
 refine wpS_of_wp (wp_skip ?_)
 cases c₀
 simp_all [bodyPostS,results,Tryz.results118]
def mk (n d:Int):Int×Int×Int:=if d=0 then (0,0,7) else match Q.red n d with|some (p,q)=>(p,q,0)|none=>(0,0,3)
theorem wO (n:Int)(w:World) :
  Calls Tryz.prog 110 #[zI zL n,zI zL 0] w fun e w'=>e = .returned (.tuple #[.agg #[zI zL 0,zI zL 0],zI zL 7])/\Below w.heap.size w w':=by
 have hmf:∀(fn:Fn) (first cap:Array Value) (w:World),(Instr.makeFunc fn first cap).run Tryz.prog w = .ok (.func fn first cap) w:=fun _ _ _ _=>rfl
 go_enter_defers Tryz.func110,Tryz.ntmps110
 go_wp2
 refine leaves_cons (f:=118) (args:=#[.pointer (some ⟨w.heap.size,0,none⟩),.pointer (some ⟨w.heap.size+1,0,none⟩)]) (by simp) (by simp[go_sem]) ?_
 refine(ll _ _ _).mono ?_
 rintro e u' w'' ⟨rfl,rfl,rfl⟩
 simp[Leaves,settle,results,Tryz.results110,go_sem]
 exact((Below.refl _ _).alloc (Nat.le_refl _) _).alloc (by simp) _
theorem yz (n d:Int)(x y:Nat)(w:World)(hd0:(d==0)=false)(h:Halved n d x y)(hx:x<=1000000000)(hy:y<=1000000000)(hs:n<0↔d<0) :
  Calls Tryz.prog 110 #[zI zL n,zI zL d] w fun e w'=>e = .returned (.tuple #[.agg #[zI zL x,zI zL y],zI zL 0])/\Below w.heap.size w w':=by
 have hmf:∀(fn:Fn) (first cap:Array Value) (w:World),(Instr.makeFunc fn first cap).run Tryz.prog w = .ok (.func fn first cap) w:=fun _ _ _ _=>rfl
 have H:=zH h
 have HS:=zH hs
 clear h hs
 go_enter_defers Tryz.func110,Tryz.ntmps110
 go_wp2_with (go_at_call 119;refine(rO _ _ _ _ _ H.out hx hy HS.out).mono ?_;rintro e w1 ⟨rfl,hb⟩;obtain⟨hc,hf⟩:=Be hb)
 exact zz52
theorem yG (n d:Int)(x y:Nat)(w:World)(hd0:(d==0)=false)(h:Halved n d x y)(hx:x<=1000000000)(hy:y<=1000000000)(hs:¬(n<0↔d<0)) :
  Calls Tryz.prog 110 #[zI zL n,zI zL d] w fun e w'=>e = .returned (.tuple #[.agg #[zI zL (-(x:Int)),zI zL y],zI zL 0])/\Below w.heap.size w w':=by
 have hmf:∀(fn:Fn) (first cap:Array Value) (w:World),(Instr.makeFunc fn first cap).run Tryz.prog w = .ok (.func fn first cap) w:=fun _ _ _ _=>rfl
 have H:=zH h
 have HS:=zH hs
 clear h hs
 go_enter_defers Tryz.func110,Tryz.ntmps110
 go_wp2_with (go_at_call 119;refine(rH _ _ _ _ _ H.out hx hy HS.out).mono ?_;rintro e w1 ⟨rfl,hb⟩;obtain⟨hc,hf⟩:=Be hb)
 exact zz52
theorem Aj (n d:Int)(x y:Nat)(w:World)(hd0:(d==0)=false)(h:Halved n d x y)(hx:1000000000<x\/1000000000<y) :
  Calls Tryz.prog 110 #[zI zL n,zI zL d] w fun e w'=>e = .returned (.tuple #[.agg #[zI zL 0,zI zL 0],zI zL 3])/\Below w.heap.size w w':=by
 have hmf:∀(fn:Fn) (first cap:Array Value) (w:World),(Instr.makeFunc fn first cap).run Tryz.prog w = .ok (.func fn first cap) w:=fun _ _ _ _=>rfl
 have H:=zH h
 have HX:=zH hx
 clear h hx
 go_enter_defers Tryz.func110,Tryz.ntmps110
 go_wp2_with (go_at_call 119;refine(uC _ _ _ _ _ H.out HX.out).mono ?_;rintro e w1 ⟨rfl,hb⟩;obtain⟨hc,hf⟩:=Be hb)
 have HB:Below w.heap.size w w1:=(((Below.refl _ _).alloc (Nat.le_refl _) _).alloc (by simp) _).trans (hb.mono zai)
 have c0:w1.cell? ⟨w.heap.size,0,none⟩=some (zI zL 0):=(hc _ _ zai).trans (by simp)
 have c1:w1.cell? ⟨w.heap.size,1,none⟩=some (zI zL 0):=(hc _ _ zai).trans (by simp)
 have c2:w1.cell? ⟨w.heap.size+1,0,none⟩=some (zI zL 0):=(hc _ _ (by simp)).trans (by simp)
 refine leaves_cons (f:=118) (args:=#[.pointer (some ⟨w.heap.size,0,none⟩),.pointer (some ⟨w.heap.size+1,0,none⟩)]) (by simp) (by simp[go_sem]) ?_
 refine(jR w.heap.size (w.heap.size+1) zac (zI zL 0) (zI zL 0) (zI zL 0) _ _ _ ?_ ?_ ?_ ?_ ?_ ?_).mono ?_
 ·exact c0
 ·exact c1
 ·exact c2
 ·exact(hf _ _ zai).trans (by simp)
 ·exact(hf _ _ zai).trans (by simp)
 ·exact(hf _ _ (by simp)).trans (by simp)
 rintro e u' w'' ⟨rfl,rfl,rfl⟩
 simp[Leaves,settle,results,Tryz.results110,go_sem,c0,c1,c2]
 repeat' (first|exact HB|refine Below.setCell ?_ (by simp) _)
theorem lL (n d:Int)(w:World)(n0 : -9223372036854775808<=n)(n1:n<=9223372036854775807)(d0 : -9223372036854775808<=d)(d1:d<=9223372036854775807) :
  Calls Tryz.prog 110 #[zI zL n,zI zL d] w fun e w' =>
   e = .returned (.tuple #[.agg #[zI zL (mk n d).1,zI zL (mk n d).2.1],zI zL (mk n d).2.2])/\Below w.heap.size w w':=by
 by_cases h:d=0
 ·subst h
  exact wO n w
 ·obtain⟨g,x,y,hg,eg,_,_,_,_,ex,ey⟩:=Q.parts n d h
  have hz:(d==0)=false:=by simp;exact h
  have hh:Halved n d x y:=⟨n0,n1,d0,d1,by rw[eg] at hg;exact hg,ex,ey⟩
  unfold mk
  rw[if_neg h]
  unfold Q.red
  rw[ex,ey]
  by_cases hx:x > 1000000000\/y > 1000000000
  ·rw[if_pos hx]
   exact Aj n d x y w hz hh hx
  ·rw[if_neg hx]
   by_cases hs:n<0↔d<0
   ·rw[if_pos hs]
    exact yz n d x y w hz hh zac zac hs
   ·rw[if_neg hs]
    exact yG n d x y w hz hh zac zac hs
theorem ko (n:Int)(w:World)(h0 : -9223372036854775808<=n)(h1:n<=9223372036854775807) :
  Calls Tryz.prog 96 #[zI zL n] w fun e w'=>e = .returned (.int .u64 (mag n))/\w'=w:=by
 by_cases h:n<0
 ·go_enter Tryz.func96,Tryz.ntmps96
  go_wp2
  go_ret
  exact⟨iT (by unfold mag;omega),rfl⟩
 ·go_enter Tryz.func96,Tryz.ntmps96
  go_wp2
  go_ret
  exact⟨iT (by unfold mag;omega),rfl⟩
theorem iQ (a b:Nat)(w:World)(ha:a<18446744073709551616)(hb:b<18446744073709551616) :
  Calls Tryz.prog 95 #[.int .u64 a,.int .u64 b] w fun e w'=>e = .returned (.int .u64 (gd a b))/\w'=w:=by
 go_enter Tryz.func95,Tryz.ntmps95
 go_wp2
 go_loopg [0,1] b (fun k x y wr=>∃a' b':Nat,a'<18446744073709551616/\b'<=k/\b'<18446744073709551616/\x = .int .u64 a'/\y = .int .u64 b'/\Nat.gcd a' b'=Nat.gcd a b/\wr=w)
 case atStart=>exact⟨a,b,ha,Nat.le_refl _,hb,rfl,rfl,rfl,rfl⟩
 case round =>
  obtain⟨a',b',ha',hk,hb',rfl,rfl,hg,rfl⟩:=hrel
  have HG:=zH hg
  clear hg
  by_cases h:b'=0
  ·subst h
   go_wp2
   go_ret
   exact⟨iT (by unfold gd;rw[<-HG.out,Nat.gcd_zero_right]),rfl⟩
  ·have hz:((b':Int)==0)=false:=by simp;omega
   have hz':((b':Int) != 0)=true:=zai
   go_wp2
   go_roundg (b' - 1)
   case measure=>omega
   case rel =>
    have hm:=Nat.mod_lt a' (show 0<b' from zac)
    refine⟨b',a' % b',hb',zac,zac,rfl,?_,?_,rfl⟩
    ·rw[Int.natCast_emod]
    ·rw[<-HG.out,Nat.gcd_comm b',<-Nat.gcd_rec,Nat.gcd_comm]
theorem sG (n:Int)(w:World):Calls Tryz.prog 81 #[zI zL n,zI zL 0] w fun e w' =>
  e = .returned (.tuple #[.agg #[zI zL 0,zI zL 0],zI zL 7])/\Below w.heap.size w w':=by
 go_enter Tryz.func81,Tryz.ntmps81
 go_wp2
 exact bodyPost_ret (v:= .tuple #[.agg #[zI zL 0,zI zL 0],zI zL 7]) zdb rfl ⟨rfl,zan⟩
theorem vB (n d:Int)(x y:Nat)(w:World)(hd0:(d==0)=false)(h:Halved n d x y)(hx:x<=1000000000)(hy:y<=1000000000)(hs:n<0↔d<0) :
  Calls Tryz.prog 81 #[zI zL n,zI zL d] w fun e w'=>e = .returned (.tuple #[.agg #[zI zL x,zI zL y],zI zL 0])/\Below w.heap.size w w':=by
 obtain⟨n0,n1,d0,d1,g0,ex,ey⟩:=h
 have hX:=dP n0 n1
 have hY:=dP d0 d1
 have hz:((gd (mag n) (mag d):Int)==0)=false:=zai
 have ex':(mag n:Int)/(gd (mag n) (mag d):Int)=(x:Int):=zbv
 have ey':(mag d:Int)/(gd (mag n) (mag d):Int)=(y:Int):=zbw
 have hxl:x<18446744073709551616:=zcb
 have hyl:y<18446744073709551616:=zcc
 clear ex ey
 by_cases hn:n<0
 ·have hd:d<0:=hs.1 hn
  clear hs
  have hnb:decide (n<0)=true:=zai
  have hdb:decide (d<0)=true:=zai
  exact zz62
 ·have hd:¬d<0:=fun c=>hn (hs.2 c)
  clear hs
  have hnb:decide (n<0)=false:=zai
  have hdb:decide (d<0)=false:=zai
  exact zz62
theorem wM (n d:Int)(x y:Nat)(w:World)(hd0:(d==0)=false)(h:Halved n d x y)(hx:x<=1000000000)(hy:y<=1000000000)(hs:¬(n<0↔d<0)) :
  Calls Tryz.prog 81 #[zI zL n,zI zL d] w fun e w'=>e = .returned (.tuple #[.agg #[zI zL (-(x:Int)),zI zL y],zI zL 0])/\Below w.heap.size w w':=by
 obtain⟨n0,n1,d0,d1,g0,ex,ey⟩:=h
 have hX:=dP n0 n1
 have hY:=dP d0 d1
 have hz:((gd (mag n) (mag d):Int)==0)=false:=zai
 have ex':(mag n:Int)/(gd (mag n) (mag d):Int)=(x:Int):=zbv
 have ey':(mag d:Int)/(gd (mag n) (mag d):Int)=(y:Int):=zbw
 have hxl:x<18446744073709551616:=zcb
 have hyl:y<18446744073709551616:=zcc
 clear ex ey
 by_cases hn:n<0
 ·have hd:¬d<0:=fun c=>hs ⟨fun _=>c,fun _=>hn⟩
  clear hs
  have hnb:decide (n<0)=true:=zai
  have hdb:decide (d<0)=false:=zai
  exact zz60
 ·have hd:d<0:=by omega
  clear hs
  have hnb:decide (n<0)=false:=zai
  have hdb:decide (d<0)=true:=zai
  exact zz60
theorem xV (n d:Int)(x y:Nat)(w:World)(hd0:(d==0)=false)(h:Halved n d x y)(hx:1000000000<x\/1000000000<y) :
  Calls Tryz.prog 81 #[zI zL n,zI zL d] w fun e w'=>e = .returned (.tuple #[.agg #[zI zL 0,zI zL 0],zI zL 3])/\Below w.heap.size w w':=by
 obtain⟨n0,n1,d0,d1,g0,ex,ey⟩:=h
 have hX:=dP n0 n1
 have hY:=dP d0 d1
 have hz:((gd (mag n) (mag d):Int)==0)=false:=zai
 have ex':(mag n:Int)/(gd (mag n) (mag d):Int)=(x:Int):=zbv
 have ey':(mag d:Int)/(gd (mag n) (mag d):Int)=(y:Int):=zbw
 have hxl:x<18446744073709551616:=zcb
 have hyl:y<18446744073709551616:=zcc
 clear ex ey
 by_cases hx1:1000000000<x
 ·clear hx
  have hxb:decide (1000000000<(x:Int))=true:=zai
  exact zz63
 ·have hy1:1000000000<y:=by omega
  clear hx
  have hxb:decide (1000000000<(x:Int))=false:=zai
  have hyb:decide (1000000000<(y:Int))=true:=zai
  exact zz63
theorem eu (n d:Int)(w:World)(n0 : -9223372036854775808<=n)(n1:n<=9223372036854775807)(d0 : -9223372036854775808<=d)(d1:d<=9223372036854775807) :
  Calls Tryz.prog 81 #[zI zL n,zI zL d] w fun e w' =>
   e = .returned (.tuple #[.agg #[zI zL (mk n d).1,zI zL (mk n d).2.1],zI zL (mk n d).2.2])/\Below w.heap.size w w':=by
 by_cases h:d=0
 ·subst h
  exact sG n w
 ·obtain⟨g,x,y,hg,eg,_,_,_,_,ex,ey⟩:=Q.parts n d h
  have hz:(d==0)=false:=by simp;exact h
  have hh:Halved n d x y:=⟨n0,n1,d0,d1,by rw[eg] at hg;exact hg,ex,ey⟩
  unfold mk
  rw[if_neg h]
  unfold Q.red
  rw[ex,ey]
  by_cases hx:x > 1000000000\/y > 1000000000
  ·rw[if_pos hx]
   exact xV n d x y w hz hh hx
  ·rw[if_neg hx]
   by_cases hs:n<0↔d<0
   ·rw[if_pos hs]
    exact vB n d x y w hz hh zac zac hs
   ·rw[if_neg hs]
    exact wM n d x y w hz hh zac zac hs
theorem zJ {n d p q:Int}(hd:d≠0)(h:mk n d=(p,q,0)):Q.Val p q:=by
 unfold mk at h
 rw[if_neg hd] at h
 cases e:Q.red n d with
 | none=>rw[e] at h;cases h
 | some r =>
  obtain⟨p',q'⟩:=r
  rw[e] at h
  simp only[Prod.mk.injEq] at h
  obtain⟨rfl,rfl,_⟩:=h
  exact(Q.red_val hd e).1
theorem zK {n d p q e:Int}(hd:d≠0)(h:mk n d=(p,q,e))(he:e≠0):p=0/\q=0/\e=3:=by
 unfold mk at h
 rw[if_neg hd] at h
 cases e':Q.red n d with
 | none=>rw[e'] at h;simp only[Prod.mk.injEq] at h;exact⟨h.1.symm,h.2.1.symm,h.2.2.symm⟩
 | some r=>rw[e'] at h;simp only[Prod.mk.injEq] at h;exact absurd h.2.2.symm he
theorem Cg {n d:Int}(h:Q.Val n d):mk n d=(n,d,0):=by
 unfold mk
 rw[if_neg (by have:=h.2.2.1;omega),Q.red_of (by have:=h.2.2.1;omega) h rfl]
end Go.Proofs.YtnjfolljbfkojaaGreatDoor
namespace Go.Proofs
open Go.Shelf
def Tryz.lays172_ren:Go.Shelf.Ren:=⟨fun|172=>109|244=>116|245=>117|247=>123|279=>124|280=>125|281=>126|282=>127|287=>135|316=>114|171=>137|205=>136|321=>141|322=>142|243=>143|246=>146|283=>148|284=>149|285=>150|286=>151|129=>154|317=>153|318=>155|319=>156|320=>157|337=>160|338=>161|n=>n,fun|9=>9|3=>3|75=>150|76=>151|4=>4|5=>5|167=>162|37=>159|0=>0|85=>163|2=>2|168=>165|53=>136|175=>173|46=>168|210=>176|127=>160|145=>185|143=>183|21=>21|171=>189|173=>192|212=>195|51=>179|20=>20|213=>196|232=>203|233=>204|80=>126|n=>n,fun|15=>1|16=>2|17=>3|18=>4|19=>5|n=>n⟩
theorem Tryz.lays172:Go.Proofs.Lays.n172 Tryz.prog Tryz.lays172_ren:={
 mixed:=by kernel_rfl
 f129:=Tryz.func154.trans (congrArg some (by kernel_rfl))
 f171:=Tryz.func137.trans (congrArg some (by kernel_rfl))
 f172:=Tryz.func109.trans (congrArg some (by kernel_rfl))
 f205:=Tryz.func136.trans (congrArg some (by kernel_rfl))
 f243:=Tryz.func143.trans (congrArg some (by kernel_rfl))
 f244:=Tryz.func116.trans (congrArg some (by kernel_rfl))
 f245:=Tryz.func117.trans (congrArg some (by kernel_rfl))
 f246:=Tryz.func146.trans (congrArg some (by kernel_rfl))
 f247:=Tryz.func123.trans (congrArg some (by kernel_rfl))
 f279:=Tryz.func124.trans (congrArg some (by kernel_rfl))
 f280:=Tryz.func125.trans (congrArg some (by kernel_rfl))
 f281:=Tryz.func126.trans (congrArg some (by kernel_rfl))
 f282:=Tryz.func127.trans (congrArg some (by kernel_rfl))
 f283:=Tryz.func148.trans (congrArg some (by kernel_rfl))
 f284:=Tryz.func149.trans (congrArg some (by kernel_rfl))
 f285:=Tryz.func150.trans (congrArg some (by kernel_rfl))
 f286:=Tryz.func151.trans (congrArg some (by kernel_rfl))
 f287:=Tryz.func135.trans (congrArg some (by kernel_rfl))
 f316:=Tryz.func114.trans (congrArg some (by kernel_rfl))
 f317:=Tryz.func153.trans (congrArg some (by kernel_rfl))
 f318:=Tryz.func155.trans (congrArg some (by kernel_rfl))
 f319:=Tryz.func156.trans (congrArg some (by kernel_rfl))
 f320:=Tryz.func157.trans (congrArg some (by kernel_rfl))
 f321:=Tryz.func141.trans (congrArg some (by kernel_rfl))
 f322:=Tryz.func142.trans (congrArg some (by kernel_rfl))
 f337:=Tryz.func160.trans (congrArg some (by kernel_rfl))
 f338:=Tryz.func161.trans (congrArg some (by kernel_rfl))
 t0:=Tryz.underlying0
 a0:=Tryz.isAgg0
 z0:=Tryz.sizeOf0
 v0:=Tryz.zeroValue0
 t2:=Tryz.underlying2
 a2:=Tryz.isAgg2
 z2:=Tryz.sizeOf2
 v2:=Tryz.zeroValue2
 t3:=Tryz.underlying3
 a3:=Tryz.isAgg3
 z3:=Tryz.sizeOf3
 v3:=Tryz.zeroValue3
 t4:=Tryz.underlying4
 a4:=Tryz.isAgg4
 z4:=Tryz.sizeOf4
 v4:=Tryz.zeroValue4
 t5:=Tryz.underlying5
 a5:=Tryz.isAgg5
 z5:=Tryz.sizeOf5
 v5:=Tryz.zeroValue5
 t9:=Tryz.underlying9
 a9:=Tryz.isAgg9
 z9:=Tryz.sizeOf9
 v9:=Tryz.zeroValue9
 t20:=Tryz.underlying20
 a20:=Tryz.isAgg20
 z20:=Tryz.sizeOf20
 v20:=Tryz.zeroValue20
 t21:=Tryz.underlying21
 a21:=Tryz.isAgg21
 z21:=Tryz.sizeOf21
 v21:=Tryz.zeroValue21
 t37:=Tryz.underlying159
 a37:=Tryz.isAgg159
 z37:=Tryz.sizeOf159
 v37:=Tryz.zeroValue159
 t46:=Tryz.underlying168
 a46:=Tryz.isAgg168
 z46:=Tryz.sizeOf168
 v46:=Tryz.zeroValue168
 t51:=Tryz.underlying179
 a51:=Tryz.isAgg179
 z51:=Tryz.sizeOf179
 v51:=Tryz.zeroValue179
 t53:=Tryz.underlying136
 a53:=Tryz.isAgg136
 z53:=Tryz.sizeOf136
 v53:=Tryz.zeroValue136
 t75:=Tryz.underlying150
 a75:=Tryz.isAgg150
 z75:=Tryz.sizeOf150
 v75:=Tryz.zeroValue150
 t76:=Tryz.underlying151
 a76:=Tryz.isAgg151
 z76:=Tryz.sizeOf151
 v76:=Tryz.zeroValue151
 t85:=Tryz.underlying163
 a85:=Tryz.isAgg163
 z85:=Tryz.sizeOf163
 v85:=Tryz.zeroValue163
 t127:=Tryz.underlying160
 a127:=Tryz.isAgg160
 z127:=Tryz.sizeOf160
 v127:=Tryz.zeroValue160
 t143:=Tryz.underlying183
 a143:=Tryz.isAgg183
 z143:=Tryz.sizeOf183
 v143:=Tryz.zeroValue183
 t145:=Tryz.underlying185
 a145:=Tryz.isAgg185
 z145:=Tryz.sizeOf185
 v145:=Tryz.zeroValue185
 t167:=Tryz.underlying162
 a167:=Tryz.isAgg162
 z167:=Tryz.sizeOf162
 v167:=Tryz.zeroValue162
 t168:=Tryz.underlying165
 a168:=Tryz.isAgg165
 z168:=Tryz.sizeOf165
 v168:=Tryz.zeroValue165
 t171:=Tryz.underlying189
 a171:=Tryz.isAgg189
 z171:=Tryz.sizeOf189
 v171:=Tryz.zeroValue189
 t173:=Tryz.underlying192
 a173:=Tryz.isAgg192
 z173:=Tryz.sizeOf192
 v173:=Tryz.zeroValue192
 t175:=Tryz.underlying173
 a175:=Tryz.isAgg173
 z175:=Tryz.sizeOf173
 v175:=Tryz.zeroValue173
 t210:=Tryz.underlying176
 a210:=Tryz.isAgg176
 z210:=Tryz.sizeOf176
 v210:=Tryz.zeroValue176
 t212:=Tryz.underlying195
 a212:=Tryz.isAgg195
 z212:=Tryz.sizeOf195
 v212:=Tryz.zeroValue195
 t213:=Tryz.underlying196
 a213:=Tryz.isAgg196
 z213:=Tryz.sizeOf196
 t232:=Tryz.underlying203
 a232:=Tryz.isAgg203
 z232:=Tryz.sizeOf203
 v232:=Tryz.zeroValue203
 t233:=Tryz.underlying204
 a233:=Tryz.isAgg204
 z233:=Tryz.sizeOf204
 v233:=Tryz.zeroValue204
 g15:=by kernel_rfl
 g16:=by kernel_rfl
 g17:=by kernel_rfl
 g18:=by kernel_rfl
 g19:=by kernel_rfl }
def Tryz.laysM316_ren:Go.Shelf.Ren:=⟨fun|316=>114|n=>n,fun|9=>9|3=>3|4=>4|37=>159|0=>0|127=>160|5=>5|n=>n,fun|n=>n⟩
theorem Tryz.laysM316:Go.Proofs.LaysM.n316 Tryz.prog Tryz.laysM316_ren:={
 mixed:=by kernel_rfl
 f316:=Tryz.func114.trans (congrArg some (by kernel_rfl))
 t0:=Tryz.underlying0
 a0:=Tryz.isAgg0
 z0:=Tryz.sizeOf0
 v0:=Tryz.zeroValue0
 t3:=Tryz.underlying3
 a3:=Tryz.isAgg3
 z3:=Tryz.sizeOf3
 v3:=Tryz.zeroValue3
 t4:=Tryz.underlying4
 a4:=Tryz.isAgg4
 z4:=Tryz.sizeOf4
 v4:=Tryz.zeroValue4
 t9:=Tryz.underlying9
 a9:=Tryz.isAgg9
 z9:=Tryz.sizeOf9
 v9:=Tryz.zeroValue9
 t37:=Tryz.underlying159
 a37:=Tryz.isAgg159
 z37:=Tryz.sizeOf159
 v37:=Tryz.zeroValue159
 t127:=Tryz.underlying160
 a127:=Tryz.isAgg160
 z127:=Tryz.sizeOf160
 v127:=Tryz.zeroValue160
 t5:=Tryz.underlying5
 a5:=Tryz.isAgg5
 z5:=Tryz.sizeOf5
 v5:=Tryz.zeroValue5
 i0:=by kernel_rfl
 i3:=by kernel_rfl
 i4:=by kernel_rfl
 i5:=by kernel_rfl
 i9:=by kernel_rfl
 i37:=by kernel_rfl
 i127:=by kernel_rfl }
def Tryz.lays219_ren:Go.Shelf.Ren:=⟨fun|219=>122|217=>131|225=>132|224=>133|267=>134|266=>139|314=>140|n=>n,fun|9=>9|3=>3|4=>4|5=>5|46=>168|146=>180|51=>179|n=>n,fun|1=>0|n=>n⟩
theorem Tryz.lays219:Go.Proofs.Lays.n219 Tryz.prog Tryz.lays219_ren:={
 mixed:=by kernel_rfl
 f217:=Tryz.func131.trans (congrArg some (by kernel_rfl))
 f219:=Tryz.func122.trans (congrArg some (by kernel_rfl))
 f224:=Tryz.func133.trans (congrArg some (by kernel_rfl))
 f225:=Tryz.func132.trans (congrArg some (by kernel_rfl))
 f266:=Tryz.func139.trans (congrArg some (by kernel_rfl))
 f267:=Tryz.func134.trans (congrArg some (by kernel_rfl))
 f314:=Tryz.func140.trans (congrArg some (by kernel_rfl))
 t3:=Tryz.underlying3
 a3:=Tryz.isAgg3
 z3:=Tryz.sizeOf3
 v3:=Tryz.zeroValue3
 t4:=Tryz.underlying4
 a4:=Tryz.isAgg4
 z4:=Tryz.sizeOf4
 v4:=Tryz.zeroValue4
 t5:=Tryz.underlying5
 a5:=Tryz.isAgg5
 z5:=Tryz.sizeOf5
 v5:=Tryz.zeroValue5
 t9:=Tryz.underlying9
 a9:=Tryz.isAgg9
 z9:=Tryz.sizeOf9
 v9:=Tryz.zeroValue9
 t46:=Tryz.underlying168
 a46:=Tryz.isAgg168
 z46:=Tryz.sizeOf168
 v46:=Tryz.zeroValue168
 t51:=Tryz.underlying179
 a51:=Tryz.isAgg179
 z51:=Tryz.sizeOf179
 v51:=Tryz.zeroValue179
 t146:=Tryz.underlying180
 a146:=Tryz.isAgg180
 z146:=Tryz.sizeOf180
 v146:=Tryz.zeroValue180
 g1:=by kernel_rfl }
def Tryz.lays99_ren:Go.Shelf.Ren:=⟨fun|99=>113|206=>121|n=>n,fun|9=>9|4=>4|3=>3|n=>n,fun|n=>n⟩
theorem Tryz.lays99:Go.Proofs.Lays.n99 Tryz.prog Tryz.lays99_ren:={
 mixed:=by kernel_rfl
 f99:=Tryz.func113.trans (congrArg some (by kernel_rfl))
 f206:=Tryz.func121.trans (congrArg some (by kernel_rfl))
 t3:=Tryz.underlying3
 a3:=Tryz.isAgg3
 z3:=Tryz.sizeOf3
 v3:=Tryz.zeroValue3
 t4:=Tryz.underlying4
 a4:=Tryz.isAgg4
 z4:=Tryz.sizeOf4
 v4:=Tryz.zeroValue4
 t9:=Tryz.underlying9
 a9:=Tryz.isAgg9
 z9:=Tryz.sizeOf9
 v9:=Tryz.zeroValue9 }
open Go.RowKit in
theorem Tryz.strconv_Atoi (s:ByteArray)(n:Int)(hl:s.size<=18)(h:Lib.atoi s.data.toList=some n)(w:World) :
  Calls Tryz.prog 109 #[.string s] w fun e w'=>e = .returned (.tuple #[.int .i64 n,.nilIface])/\∃t,w'=Lib.bytesWorld w 5 t:=Any.strconv_Atoi Tryz.lays172 s n hl h w
open Go.RowKit in
theorem Tryz.stringslite_Clone (s:ByteArray)(w:World)(hlim:s.size<=281474976710656) :
  Calls Tryz.prog 114 #[.string s] w fun e w'=>e = .returned (.string s)/\Below w.heap.size w w':=Any.stringslite_Clone Tryz.laysM316 s w hlim
open Go.RowKit Go.Lib in
theorem Tryz.stringslite_Index_one (s:ByteArray)(c:UInt8)(w:World) :
  Calls Tryz.prog 122 #[.string s,.string ⟨#[c]⟩] w fun e w'=>e = .returned (.int .i64 (Lib.indexByte s.data.toList c))/\w'=w:=Any.stringslite_Index_one Tryz.lays219 s c w
open Go.RowKit Go.Lib in
theorem Tryz.strings_HasPrefix (s p:ByteArray)(w:World) :
  Calls Tryz.prog 113 #[.string s,.string p] w fun e w'=>e = .returned (.bool (Lib.hasPrefix s.data.toList p.data.toList))/\w'=w:=Any.strings_HasPrefix Tryz.lays99 s p w
end Go.Proofs
namespace Go.Proofs.YtnjfolljbfkojaaGreatDoor
open Go.Value renaming int→zI
open Go.IntKind renaming i64→zL
open Go.Lib renaming hid→zH
open Go.RowKit
def vld (n d:Int):Bool:=decide (-1000000000<=n)&&decide (n<=1000000000)&&decide (1<=d)&&decide (d<=1000000000)&&(gd (mag n) (mag d)==1)
theorem dC (n d:Int):vld n d=true↔Q.Val n d:=by
 unfold vld Q.Val gd mag
 simp only[Bool.and_eq_true,decide_eq_true_eq,beq_iff_eq,and_assoc]
theorem uO (n d:Int)(w:World)(n0 : -9223372036854775808<=n)(n1:n<=9223372036854775807)(d0 : -9223372036854775808<=d)(d1:d<=9223372036854775807)
  (h:n < -1000000000\/1000000000<n\/d<1\/1000000000<d) :
  Calls Tryz.prog 162 #[.agg #[zI zL n,zI zL d]] w fun e w'=>e = .returned (.bool false)/\Below w.heap.size w w':=by
 have H:=zH h
 clear h
 by_cases h1:n < -1000000000
 ·clear H
  go_enter Tryz.func162,Tryz.ntmps162
  exact D9
 by_cases h2:1000000000<n
 ·clear H
  have b1:decide (n < -1000000000)=false:=zai
  go_enter Tryz.func162,Tryz.ntmps162
  exact D9
 by_cases h3:d<1
 ·clear H
  have b1:decide (n < -1000000000)=false:=zai
  have b2:decide (1000000000<n)=false:=zai
  go_enter Tryz.func162,Tryz.ntmps162
  exact D9
 ·have h4:1000000000<d:=by have:=H.out;omega
  clear H
  have b1:decide (n < -1000000000)=false:=zai
  have b2:decide (1000000000<n)=false:=zai
  have b3:decide (d<1)=false:=zai
  go_enter Tryz.func162,Tryz.ntmps162
  exact D9
theorem su (n d:Int)(w:World)(n0 : -1000000000<=n)(n1:n<=1000000000)(d0:1<=d)(d1:d<=1000000000) :
  Calls Tryz.prog 162 #[.agg #[zI zL n,zI zL d]] w fun e w'=>e = .returned (.bool ((gd (mag n) (mag d):Int)==1))/\Below w.heap.size w w':=by
 have hX:=dP (n:=n) zac zac
 have hY:=dP (n:=d) zac zac
 have b1:decide (n < -1000000000)=false:=zai
 have b2:decide (1000000000<n)=false:=zai
 have b3:decide (d<1)=false:=zai
 have b4:decide (1000000000<d)=false:=zai
 go_enter Tryz.func162,Tryz.ntmps162
 go_wp2
 go_quiet ((first|(go_at_call 128;exact Calls.quiet_of_same (jl _ _ zac zac))|(go_at_call 129;exact Calls.quiet_of (fF _ _ _ zac zac))))
 exact D9
theorem fO (n d:Int)(w:World)(n0 : -9223372036854775808<=n)(n1:n<=9223372036854775807)(d0 : -9223372036854775808<=d)(d1:d<=9223372036854775807) :
  Calls Tryz.prog 162 #[.agg #[zI zL n,zI zL d]] w fun e w'=>e = .returned (.bool (vld n d))/\Below w.heap.size w w':=by
 by_cases h:n < -1000000000\/1000000000<n\/d<1\/1000000000<d
 ·refine(uO n d w n0 n1 d0 d1 h).mono ?_
  rintro e w' ⟨rfl,hb⟩
  refine⟨?_,hb⟩
  have:vld n d=false:=by
   rw[Bool.eq_false_iff];intro hv
   have:=(dC n d).1 hv
   unfold Q.Val at this;omega
  rw[this]
 ·refine(su n d w zac zac zac zac).mono ?_
  rintro e w' ⟨rfl,hb⟩
  refine⟨?_,hb⟩
  have:vld n d=((gd (mag n) (mag d):Int)==1):=by
   unfold vld
   rw[Bool.eq_iff_iff]
   simp only[Bool.and_eq_true,decide_eq_true_eq,beq_iff_eq]
   omega
  rw[this]
theorem uW (a b c d:Int)(w:World) :
  Calls Tryz.prog 159 #[.agg #[zI zL a,zI zL b],.agg #[zI zL c,zI zL d]] w fun e w' =>
   e = .returned (.agg #[zI zL (wrap64 (a*c)),zI zL (wrap64 (b*d))])/\Below w.heap.size w w':=by
 go_enter Tryz.func159,Tryz.ntmps159
 go_wp2
 refine bodyPost_ret (v:= .agg #[zI zL (wrap64 (a*c)),zI zL (wrap64 (b*d))]) (by simp[results,Tryz.results159,go_sem]) rfl ⟨rfl,?_⟩
 repeat' (first|exact Below.refl _ _|refine Below.setCell ?_ zar _|refine below_drewN ?_ _|refine Below.alloc ?_ zar _)
theorem jh {a b:Int}(a0 : -1000000000<=a)(a1:a<=1000000000)(b0 : -1000000000<=b)(b1:b<=1000000000) : -1000000000000000000<=a*b/\a*b<=1000000000000000000:=by
 have h:(a*b).natAbs<=1000000000*1000000000:=by rw[Int.natAbs_mul];exact Nat.mul_le_mul zac zac
 omega
theorem qQ {a b:Int}(a0 : -1000000000<=a)(a1:a<=1000000000)(b0 : -1000000000<=b)(b1:b<=1000000000):wrap64 (a*b)=a*b:=by
 have:=jh a0 a1 b0 b1
 exact IntWalk.wrap64_in _ ⟨zac,zac⟩
def Does (F:Nat)(a b c d n m:Int):Prop:=∀w:World,Calls Tryz.prog F #[.agg #[zI zL a,zI zL b],.agg #[zI zL c,zI zL d]] w fun e w' =>
 e = .returned (.agg #[zI zL n,zI zL m])/\Below w.heap.size w w'
theorem sN {a b c d:Int}(h:Q.Val a b)(k:Q.Val c d):Does 159 a b c d (a*c) (b*d):=by
 obtain⟨h1,h2,h3,h4,_⟩:=h
 obtain⟨k1,k2,k3,k4,_⟩:=k
 intro w
 have e:=uW a b c d w
 rw[qQ h1 h2 k1 k2,qQ (a:=b) (b:=d) zac h4 zac k4] at e
 exact e
theorem At2.alloc {w:World}{b:Nat}{x y:Value}(h:At2 w b x y)(hb:b<w.heap.size)(o:Obj):At2 (w.alloc o) b x y:=h.below (B:=w.heap.size) ((Below.refl _ _).alloc (Nat.le_refl _) _) hb
theorem rU (F:Nat)(a b c d n m:Int)(w:World)(h:vld a b=true)(k:vld c d=true)(hF:Does F a b c d n m)
  (hE:∀(args:Array Value) (w:World),(callFunc F args).run Tryz.prog w = .ok (.enter F args) w)
  (n0 : -9223372036854775808<=n)(n1:n<=9223372036854775807)(d0 : -9223372036854775808<=m)(d1:m<=9223372036854775807) :
  Calls Tryz.prog 158 #[.agg #[zI zL a,zI zL b],.agg #[zI zL c,zI zL d],.func (.func F) #[] #[]] w fun e w' =>
   e = .returned (.tuple #[.agg #[zI zL (mk n m).1,zI zL (mk n m).2.1],zI zL (mk n m).2.2])/\Below w.heap.size w w':=by
 obtain⟨a0,a1,b0,b1,_⟩:=(dC a b).1 h
 obtain⟨c0,c1,e0,e1,_⟩:=(dC c d).1 k
 go_enter Tryz.func158,Tryz.ntmps158
 go_wp2_with fail
 refine(fO _ _ _ zac zac zac zac).mono ?_
 rintro e w1 ⟨rfl,hb1⟩
 have hz1:=hb1.size
 simp only[World.size_alloc] at hz1
 have A1:At2 w1 w.heap.size (zI zL a) (zI zL b):=(((At2.new w _ _ _).alloc (by simp) _).alloc zai _).below hb1 zai
 have C1:At2 w1 (w.heap.size+1) (zI zL c) (zI zL d):=by
  have:=((At2.new (w.alloc (.cells #[zI zL a,zI zL b] 31)) (zI zL c) (zI zL d) 31).alloc (by simp) (.cells #[zI zL 0,zI zL 0] 31)).below hb1 (by simp)
  simpa using this
 have R1:At2 w1 (w.heap.size+1+1) (zI zL 0) (zI zL 0):=by
  have:=(At2.new ((w.alloc (.cells #[zI zL a,zI zL b] 31)).alloc (.cells #[zI zL c,zI zL d] 31)) (zI zL 0) (zI zL 0) 31).below hb1 (by simp)
  simpa using this
 have HB1:Below w.heap.size w w1:=((((Below.refl _ _).alloc (Nat.le_refl _) _).alloc (by simp) _).alloc zai _).trans (hb1.mono zai)
 clear hb1
 obtain⟨p0,p1,p2,p3⟩:=A1
 obtain⟨p4,p5,p6,p7⟩:=C1
 obtain⟨p8,p9,p10,p11⟩:=R1
 go_wp2_with fail
 refine(fO _ _ _ zac zac zac zac).mono ?_
 rintro e w2 ⟨rfl,hb2⟩
 have hz2:=hb2.size
 have A2:=(At2.mk p0 p1 p2 p3).below hb2 zac
 have C2:=(At2.mk p4 p5 p6 p7).below hb2 zac
 have R2:=(At2.mk p8 p9 p10 p11).below hb2 zac
 have HB2:Below w.heap.size w w2:=HB1.trans (hb2.mono zac)
 clear p0 p1 p2 p3 p4 p5 p6 p7 p8 p9 p10 p11 hb2 HB1
 obtain⟨p0,p1,p2,p3⟩:=A2
 obtain⟨p4,p5,p6,p7⟩:=C2
 obtain⟨p8,p9,p10,p11⟩:=R2
 go_wp2_with fail
 refine(hF _).mono ?_
 rintro e w3 ⟨rfl,hb3⟩
 have hz3:=hb3.size
 have R3:=(At2.mk p8 p9 p10 p11).below hb3 zac
 have HB3:Below w.heap.size w w3:=HB2.trans (hb3.mono zac)
 clear p0 p1 p2 p3 p4 p5 p6 p7 p8 p9 p10 p11 hb3 HB2
 obtain⟨p8,p9,p10,p11⟩:=R3
 go_wp2_with fail
 refine(lL _ _ _ zac zac zac zac).mono ?_
 rintro e w4 ⟨rfl,hb4⟩
 have hz4:=hb4.size
 simp only[World.size_alloc] at hz4
 have R4:=((At2.mk p8 p9 p10 p11).alloc zac _).below hb4 zai
 have HBX:Below w.heap.size w w4:=(HB3.alloc zac _).trans (hb4.mono zai)
 clear p8 p9 p10 p11 hb4 HB3
 obtain⟨p8,p9,p10,p11⟩:=R4
 go_wp2
 refine bodyPost_ret (v:= .tuple #[.agg #[zI zL (mk n m).1,zI zL (mk n m).2.1],zI zL (mk n m).2.2]) (by simp[results,Tryz.results158,go_sem,p8,p9]) rfl ⟨rfl,?_⟩
 repeat' (first|exact HBX|refine Below.setCell ?_ zar _|refine below_drewN ?_ _|refine Below.alloc ?_ zar _)
theorem oh (F:Nat)(a b c d:Int)(w:World)(h:vld a b=false)
  (a0 : -9223372036854775808<=a)(a1:a<=9223372036854775807)(b0 : -9223372036854775808<=b)(b1:b<=9223372036854775807) :
  Calls Tryz.prog 158 #[.agg #[zI zL a,zI zL b],.agg #[zI zL c,zI zL d],.func (.func F) #[] #[]] w fun e w' =>
   e = .returned (.tuple #[.agg #[zI zL 0,zI zL 0],zI zL 1])/\Below w.heap.size w w':=by
 go_enter Tryz.func158,Tryz.ntmps158
 go_wp2_with fail
 refine(fO _ _ _ zac zac zac zac).mono ?_
 rintro e w1 ⟨rfl,hb1⟩
 have hz1:=hb1.size
 simp only[World.size_alloc] at hz1
 have R1:At2 w1 (w.heap.size+1+1) (zI zL 0) (zI zL 0):=by
  have:=(At2.new ((w.alloc (.cells #[zI zL a,zI zL b] 31)).alloc (.cells #[zI zL c,zI zL d] 31)) (zI zL 0) (zI zL 0) 31).below hb1 (by simp)
  simpa using this
 have HBX:Below w.heap.size w w1:=((((Below.refl _ _).alloc (Nat.le_refl _) _).alloc (by simp) _).alloc zai _).trans (hb1.mono zai)
 clear hb1
 obtain⟨p8,p9,p10,p11⟩:=R1
 go_wp2
 refine bodyPost_ret (v:= .tuple #[.agg #[zI zL 0,zI zL 0],zI zL 1]) (by simp[results,Tryz.results158,go_sem,p8,p9]) rfl ⟨rfl,?_⟩
 repeat' (first|exact HBX|refine Below.setCell ?_ zar _|refine below_drewN ?_ _|refine Below.alloc ?_ zar _)
theorem nE (F:Nat)(a b c d:Int)(w:World)(h:vld a b=true)(k:vld c d=false)
  (a0 : -9223372036854775808<=a)(a1:a<=9223372036854775807)(b0 : -9223372036854775808<=b)(b1:b<=9223372036854775807)
  (c0 : -9223372036854775808<=c)(c1:c<=9223372036854775807)(d0 : -9223372036854775808<=d)(d1:d<=9223372036854775807) :
  Calls Tryz.prog 158 #[.agg #[zI zL a,zI zL b],.agg #[zI zL c,zI zL d],.func (.func F) #[] #[]] w fun e w' =>
   e = .returned (.tuple #[.agg #[zI zL 0,zI zL 0],zI zL 1])/\Below w.heap.size w w':=by
 go_enter Tryz.func158,Tryz.ntmps158
 go_wp2_with fail
 refine(fO _ _ _ zac zac zac zac).mono ?_
 rintro e w1 ⟨rfl,hb1⟩
 have hz1:=hb1.size
 simp only[World.size_alloc] at hz1
 have A1:At2 w1 w.heap.size (zI zL a) (zI zL b):=(((At2.new w _ _ _).alloc (by simp) _).alloc zai _).below hb1 zai
 have C1:At2 w1 (w.heap.size+1) (zI zL c) (zI zL d):=by
  have:=((At2.new (w.alloc (.cells #[zI zL a,zI zL b] 31)) (zI zL c) (zI zL d) 31).alloc (by simp) (.cells #[zI zL 0,zI zL 0] 31)).below hb1 (by simp)
  simpa using this
 have R1:At2 w1 (w.heap.size+1+1) (zI zL 0) (zI zL 0):=by
  have:=(At2.new ((w.alloc (.cells #[zI zL a,zI zL b] 31)).alloc (.cells #[zI zL c,zI zL d] 31)) (zI zL 0) (zI zL 0) 31).below hb1 (by simp)
  simpa using this
 have HB1:Below w.heap.size w w1:=((((Below.refl _ _).alloc (Nat.le_refl _) _).alloc (by simp) _).alloc zai _).trans (hb1.mono zai)
 clear hb1
 obtain⟨p0,p1,p2,p3⟩:=A1
 obtain⟨p4,p5,p6,p7⟩:=C1
 obtain⟨p8,p9,p10,p11⟩:=R1
 go_wp2_with fail
 refine(fO _ _ _ zac zac zac zac).mono ?_
 rintro e w2 ⟨rfl,hb2⟩
 have hz2:=hb2.size
 have R2:=(At2.mk p8 p9 p10 p11).below hb2 zac
 have HBX:Below w.heap.size w w2:=HB1.trans (hb2.mono zac)
 clear p0 p1 p2 p3 p4 p5 p6 p7 p8 p9 p10 p11 hb2 HB1
 obtain⟨p8,p9,p10,p11⟩:=R2
 go_wp2
 refine bodyPost_ret (v:= .tuple #[.agg #[zI zL 0,zI zL 0],zI zL 1]) (by simp[results,Tryz.results158,go_sem,p8,p9]) rfl ⟨rfl,?_⟩
 repeat' (first|exact HBX|refine Below.setCell ?_ zar _|refine below_drewN ?_ _|refine Below.alloc ?_ zar _)
theorem jd {a b c d:Int}(h:Q.Val a b)(k:Q.Val c d) : -9223372036854775808<=a*c/\a*c<=9223372036854775807/\-9223372036854775808<=b*d/\b*d<=9223372036854775807:=by
 obtain⟨h1,h2,h3,h4,_⟩:=h
 obtain⟨k1,k2,k3,k4,_⟩:=k
 have x:=jh h1 h2 k1 k2
 have z:=jh (a:=b) (b:=d) zac h4 zac k4
 omega
def op2 (a b c d n m:Int):Int×Int×Int:=if vld a b=true/\vld c d=true then mk n m else (0,0,1)
theorem pW (F:Nat)(a b c d n m:Int)(w:World)(hF:Q.Val a b->Q.Val c d->Does F a b c d n m/\-9223372036854775808<=n/\n<=9223372036854775807/\-9223372036854775808<=m/\m<=9223372036854775807)
  (hE:∀(args:Array Value) (w:World),(callFunc F args).run Tryz.prog w = .ok (.enter F args) w)
  (a0 : -9223372036854775808<=a)(a1:a<=9223372036854775807)(b0 : -9223372036854775808<=b)(b1:b<=9223372036854775807)
  (c0 : -9223372036854775808<=c)(c1:c<=9223372036854775807)(d0 : -9223372036854775808<=d)(d1:d<=9223372036854775807) :
  Calls Tryz.prog 158 #[.agg #[zI zL a,zI zL b],.agg #[zI zL c,zI zL d],.func (.func F) #[] #[]] w fun e w' =>
   e = .returned (.tuple #[.agg #[zI zL (op2 a b c d n m).1,zI zL (op2 a b c d n m).2.1],zI zL (op2 a b c d n m).2.2])/\Below w.heap.size w w':=by
 unfold op2
 cases h:vld a b
 ·rw[if_neg (fun x=>by cases x.1)]
  exact oh F a b c d w h a0 a1 b0 b1
 ·cases k:vld c d
  ·rw[if_neg (fun x=>by cases x.2)]
   exact nE F a b c d w h k a0 a1 b0 b1 c0 c1 d0 d1
  ·rw[if_pos ⟨rfl,rfl⟩]
   obtain⟨h1,h2,h3,h4,h5⟩:=hF ((dC _ _).1 h) ((dC _ _).1 k)
   exact rU F a b c d n m w h k h1 hE h2 h3 h4 h5
theorem pE (args:Array Value)(w:World):(callFunc 159 args).run Tryz.prog w = .ok (.enter 159 args) w:=zab
theorem vW (a b c d:Int)(w:World)
  (a0 : -9223372036854775808<=a)(a1:a<=9223372036854775807)(b0 : -9223372036854775808<=b)(b1:b<=9223372036854775807)
  (c0 : -9223372036854775808<=c)(c1:c<=9223372036854775807)(d0 : -9223372036854775808<=d)(d1:d<=9223372036854775807) :
  Calls Tryz.prog 152 #[.agg #[zI zL a,zI zL b],.agg #[zI zL c,zI zL d]] w fun e w' =>
   e = .returned (.tuple #[.agg #[zI zL (op2 a b c d (a*c) (b*d)).1,zI zL (op2 a b c d (a*c) (b*d)).2.1],zI zL (op2 a b c d (a*c) (b*d)).2.2])/\Below w.heap.size w w':=by
 have hF:∀w,Calls Tryz.prog 158 #[.agg #[zI zL a,zI zL b],.agg #[zI zL c,zI zL d],.func (.func 159) #[] #[]] w fun e w' =>
   e = .returned (.tuple #[.agg #[zI zL (op2 a b c d (a*c) (b*d)).1,zI zL (op2 a b c d (a*c) (b*d)).2.1],zI zL (op2 a b c d (a*c) (b*d)).2.2])/\Below w.heap.size w w':=fun w =>
  pW _ a b c d _ _ w (fun h k=>⟨sN h k,jd h k⟩) pE a0 a1 b0 b1 c0 c1 d0 d1
 generalize op2 a b c d (a*c) (b*d)=r at hF |-
 have HF:=zH hF
 clear hF
 go_enter Tryz.func152,Tryz.ntmps152
 go_wp2_with fail
 refine(HF.out _).mono ?_
 rintro e w1 ⟨rfl,hb1⟩
 have hz1:=hb1.size
 simp only[World.size_alloc] at hz1
 have R1:At2 w1 (w.heap.size+1+1) (zI zL 0) (zI zL 0):=by
  have:=(At2.new ((w.alloc (.cells #[zI zL a,zI zL b] 31)).alloc (.cells #[zI zL c,zI zL d] 31)) (zI zL 0) (zI zL 0) 31).below hb1 (by simp)
  simpa using this
 have HBX:Below w.heap.size w w1:=((((Below.refl _ _).alloc (Nat.le_refl _) _).alloc (by simp) _).alloc zai _).trans (hb1.mono zai)
 clear hb1
 obtain⟨p8,p9,p10,p11⟩:=R1
 go_wp2
 refine bodyPost_ret (v:= .tuple #[.agg #[zI zL r.1,zI zL r.2.1],zI zL r.2.2]) (by simp[results,Tryz.results152,go_sem,p8,p9]) rfl ⟨rfl,?_⟩
 repeat' (first|exact HBX|refine Below.setCell ?_ zar _|refine below_drewN ?_ _|refine Below.alloc ?_ zar _)
end Go.Proofs.YtnjfolljbfkojaaGreatDoor
