import Derived.Test.YtnjfolljbfkojaaGreatDoorMBK
import Derived.Test.YtnjfolljbfkojaaGreatDoorMBE
set_option maxRecDepth 100000
set_option maxHeartbeats 20000000
namespace Go.Proofs.YtnjfolljbfkojaaGreatDoor
open Go.Value renaming int→zI
open Go.IntKind renaming i64→zL
open Go.Lib renaming hid→zH
open Go.RowKit Lx
def zTok:Value:= .agg #[zI zL 0,zI zL 0,.string ⟨#[]⟩,zI zL 0,zI zL 0]
theorem Cf {x:List UInt8}(h:(bN x).2.2≠0):(frm x=false/\(bN x).2.2=8)\/(frm x=true/\(Vh (hun x)).2.2≠0/\(bN x).2.2=3):=by
 unfold bN at h |-
 cases hf:frm x with
 | false=>left;exact⟨rfl,by simp⟩
 | true =>
  right
  rw[hf,if_pos rfl] at h
  refine⟨rfl,h,?_⟩
  rw[if_pos rfl]
  exact(zK (n:=(hun x:Int)) (d:=100) zah (show mk _ _=((Vh (hun x)).1,(Vh (hun x)).2.1,(Vh (hun x)).2.2) from rfl) h).2.2
theorem Ci (s:ByteArray)(i:Nat)(w:World)(l:List UInt8)(hl:s.data.toList.drop i=l)(hi:i<s.size)(hs:s.size<=8000)(t:Tok)(n:Nat)(hn:nx Vh l = .ok t n) :
  Calls Tryz.prog 39 #[.string s,zI zL i] w fun e w'=>e = .returned (.tuple #[fI (mov i t),zI zL (n:Nat),zI zL 0])/\RowKit.Below w.heap.size w w':=by
 obtain⟨c,r,hcr,hc⟩:=dH hi hl
 rw[hcr] at hn
 simp only[nx] at hn
 by_cases h1:ltr c=true
 ·rw[if_pos h1] at hn
  have hd:dgt c=false:=(pu c h1).2.2.1
  split at hn
  ·cases hn
  ·rename_i h16
   injection hn with e1 e2
   subst e1 e2
   rw[<-hcr] at h16 |-
   have:mov i ⟨1,0,l.takeWhile wrd,0,0⟩=⟨1,i,l.takeWhile wrd,0,0⟩:=by unfold mov;simp
   rw[this]
   exact mZ s i w l hl hi hs (by rw[hc];exact hd) (by rw[hc];exact h1) (l.takeWhile wrd) rfl zac
 ·rw[if_neg h1] at hn
  have h1':ltr c=false:=by simpa using h1
  by_cases h2:dgt c=true
  ·rw[if_pos h2] at hn
   split at hn
   ·rename_i hf
    split at hn
    ·rename_i hv
     injection hn with e1 e2
     subst e1 e2
     rw[<-hcr] at hf hv |-
     have:∀n d,mov i ⟨2,0,[],n,d⟩=⟨2,i,[],n,d⟩:=by intro n d;unfold mov;simp
     rw[this]
     exact pM s i w l hl hi hs (by rw[hc];exact h2) _ rfl _ _ (by unfold bN;rw[if_pos hf,<-hv])
    ·cases hn
   ·cases hn
  ·rw[if_neg h2] at hn
   have h2':dgt c=false:=zcw
   split at hn
   ·cases hn
   ·rename_i h0
    injection hn with e1 e2
    subst e1 e2
    rw[<-hcr] at h0 |-
    have:mov i ⟨3,0,l.take (sgn l),0,0⟩=⟨3,i,l.take (sgn l),0,0⟩:=by unfold mov;simp
    rw[this]
    exact nQ s i w l hl hi hs (by rw[hc];exact h2') (by rw[hc];exact h1') _ rfl zac
theorem Bj (s:ByteArray)(i:Nat)(w:World)(l:List UInt8)(hl:s.data.toList.drop i=l)(hi:i<s.size)(hs:s.size<=8000)(E:Int)(hn:nx Vh l = .er E) :
  Calls Tryz.prog 39 #[.string s,zI zL i] w fun e w'=>e = .returned (.tuple #[zTok,zI zL 0,zI zL E])/\RowKit.Below w.heap.size w w':=by
 obtain⟨c,r,hcr,hc⟩:=dH hi hl
 rw[hcr] at hn
 simp only[nx] at hn
 by_cases h1:ltr c=true
 ·rw[if_pos h1] at hn
  have hd:dgt c=false:=(pu c h1).2.2.1
  split at hn
  ·rename_i h16
   injection hn with e1
   subst e1
   rw[<-hcr] at h16
   exact nT s i w l hl hi hs (by rw[hc];exact hd) (by rw[hc];exact h1) _ rfl h16
  ·cases hn
 ·rw[if_neg h1] at hn
  have h1':ltr c=false:=by simpa using h1
  by_cases h2:dgt c=true
  ·rw[if_pos h2] at hn
   have hE:(bN (l.takeWhile nmb)).2.2=E/\E≠0:=by
    rw[<-hcr] at hn
    split at hn
    ·rename_i hf
     split at hn
     ·cases hn
     ·rename_i hv
      injection hn with e1
      have hq:(bN (l.takeWhile nmb)).2.2≠0:=by unfold bN;rw[if_pos hf];exact hv
      rcases Cf hq with ⟨h,_⟩|⟨_,_,h⟩
      ·rw[hf] at h;cases h
      ·rw[h,<-e1];decide
    ·rename_i hf
     injection hn with e1
     have:bN (l.takeWhile nmb)=(0,0,8):=by unfold bN;rw[if_neg hf]
     rw[this,<-e1];decide
   exact oK s i w l hl hi hs (by rw[hc];exact h2) _ rfl _ _ E (by rw[<-hE.1]) hE.2
  ·rw[if_neg h2] at hn
   have h2':dgt c=false:=zcw
   split at hn
   ·rename_i h0
    injection hn with e1
    subst e1
    rw[<-hcr] at h0
    exact oC s i w l hl hi hs (by rw[hc];exact h2') (by rw[hc];exact h1') _ rfl h0
   ·cases hn
theorem ET {l:List UInt8}{E:Int}(h:nx Vh l = .er E)(hl:l≠[]):E≠0:=by
 cases l with
 | nil=>exact absurd rfl hl
 | cons c l =>
  simp only[nx] at h
  repeat' (split at h)
  all_goals first|(cases h;done)|(injection h with h;rw[<-h];decide)
def FP (w0:World)(s:ByteArray)(R:Res)(v:Value)(wr:World)(f j:Nat)(pre:List Tok):Prop :=
 RowKit.Below w0.heap.size w0 wr/\gL wr w0.heap.size v pre/\pre.length+f=2000/\j<=s.size/\gp false (s.data.toList.drop j)=0/\(lx Vh f j (s.data.toList.drop j)).app pre=R
theorem Gives.ok {w w':World}{R:Res}{v:Value}{ts:List Tok}{base:Nat}(h:R = .ok ts)(ho:gL w' base v ts)(hm:ts.length<=1000000)(hB:RowKit.Below w.heap.size w w'):∀e,e = .returned (.tuple #[v,zI zL 0,zI zL 0])->Gives w R e w':=by
 subst h
 rintro _ rfl
 obtain⟨q,b,cap,n,rfl,h1,h2,_⟩:=gL.reads ho hm
 exact⟨q,b,cap,n,rfl,h1,h2,hB⟩
theorem Gives.er {w w':World}{R:Res}{E:Int}{a:Nat}(h:R = .er E a)(hB:RowKit.Below w.heap.size w w'):Gives w R (.returned (.tuple #[.slice none 0 0,zI zL E,zI zL (a:Nat)])) w':=by
 subst h
 exact⟨none,0,0,0,rfl,SlT.nil _ _,Nat.le_refl _,hB⟩
theorem jy (s:ByteArray)(w:World)(hs:s.size<=281474976710656):Calls Tryz.prog 18 #[.string s] w fun e w'=>Gives w (lex Vh s.data.toList) e w':=by
 obtain⟨R,hR⟩:∃R,R=lex Vh s.data.toList:=⟨_,rfl⟩
 rw[<-hR]
 by_cases h8:8000<s.size
 ·have HR:Hid (R = .er 2 0):=by show _=_;rw[hR];unfold lex;rw[if_pos (by rw[ay];exact h8)]
  have d1:decide ((8000:Int)<(s.size:Int))=true:=decide_eq_true zac
  clear hR
  go_enter Tryz.func18,Tryz.ntmps18
  go_wp2_with fail
  go_ret3
  exact Gives.er HR.out (Below.refl _ _)
 ·have d1:decide ((8000:Int)<(s.size:Int))=false:=decide_eq_false zac
  have d2:¬(8000:Int)<(s.size:Int):=zac
  have HR:Hid (lx Vh 2000 0 s.data.toList=R):=by show _=_;rw[hR];unfold lex;rw[if_neg (by rw[ay];exact h8)]
  have h8':s.size<=8000:=zac
  clear hR
  go_enter Tryz.func18,Tryz.ntmps18
  go_wp2_with fail
  have KS:=zH (nX s 0 w zac hs)
  refine KS.out.mono ?_
  rintro _ _ ⟨rfl,rfl⟩
  rename World=>w0
  have H1:Hid (FP w0 s R (.slice none 0 0) w0 2000 (0+gp false (s.data.toList.drop 0)) []):=by
   have hle:=iP s.data.toList false
   rw[ay] at hle
   refine⟨Below.refl _ _,gL.empty _ _,rfl,by simpa using hle,?_,?_⟩
   ·exact Em
   ·rw[mF]
    simp only[List.drop_zero,Nat.zero_add]
    rw[<-HR.out,mD 2000 0 s.data.toList,Nat.zero_add]
  clear KS HR
  generalize 0+gp false (s.data.toList.drop 0)=j0 at H1
  go_wp2_with fail
  go_loopg [5,6] 2000 (fun g v s6 wr=>∃(f j:Nat) (pre:List Tok),s6 = zI zL j/\f<=g/\Hid (FP w0 s R v wr f j pre))
  case atStart=>exact⟨2000,j0,[],rfl,zac,H1⟩
  case round =>
   clear H1
   obtain⟨f,j,pre,rfl,hfg,H⟩:=hrel
   obtain⟨q,cap,hv⟩:=uZ H.out.2.1
   subst hv
   have hpl:=H.out.2.2.1
   by_cases hj:j<s.size
   ·have hjz:(j:Int)<(s.size:Int):=by omega
    have hjl:¬0=(s.data.toList.drop j).length:=by rw[List.length_drop,ay];omega
    cases f with
    | zero =>
     have HE:Hid (R = .er 2 j):=by
      have:=H.out.2.2.2.2.2
      simp only[lx,H.out.2.2.2.2.1] at this
      rw[if_neg hjl] at this
      exact this.symm
     have e1:((pre.length:Int)==2000)=true:=zai
     clear hjl
     go_wp2_with fail
     go_ret3
     exact Gives.er HE.out H.out.1
    | succ f =>
     have e1:((pre.length:Int)==2000)=false:=zai
     cases hn:nx Vh (s.data.toList.drop j) with
     | er E =>
      have HE:Hid (R = .er E j):=by
       have:=H.out.2.2.2.2.2
       simp only[lx,H.out.2.2.2.2.1] at this
       rw[if_neg hjl,List.drop_zero,hn] at this
       exact this.symm
      have HN:=zH hn
      have hE0:E≠0:=ET hn (by intro e;rw[e] at hjl;exact hjl rfl)
      have hE1:(E != 0)=true:=by simpa using hE0
      clear hjl hn hE0
      go_wp2_with fail
      have KF:=zH (Bj s j wr _ rfl hj h8' E HN.out)
      unfold zTok at KF
      refine KF.out.mono ?_
      rintro _ w2 ⟨rfl,k2⟩
      have B2:=zH (H.out.1.trans (k2.mono H.out.1.size))
      have hz:=B2.out.size
      clear k2 KF
      go_wp2_with fail
      go_ret3
      exact Gives.er HE.out (by repeat' (first|exact B2.out|refine Below.alloc ?_ (by first|exact hz|(simp;omega)) _))
     | ok t n =>
      have HE:Hid (((lx Vh f (j+n) (s.data.toList.drop (j+n))).app [mov (j:Nat) t]).app pre=R):=by
       have:=H.out.2.2.2.2.2
       simp only[lx,H.out.2.2.2.2.1] at this
       rw[if_neg hjl,List.drop_zero,hn] at this
       simp only[Nat.zero_add,Nat.add_zero,List.drop_drop] at this
       exact this
      have HN:=zH hn
      have hjn:j+n<=s.size:=by have:=(ja hn).2.1;rw[List.length_drop,ay] at this;omega
      clear hjl hn
      go_wp2_with fail
      have KT:=zH (Ci s j wr _ rfl hj h8' t n HN.out)
      refine KT.out.mono ?_
      rintro _ w2 ⟨rfl,k2⟩
      have B2:=zH (H.out.1.trans (k2.mono H.out.1.size))
      have O2:=zH (H.out.2.1.below k2)
      clear k2 KT
      generalize mov (j:Int) t=tt at HE |-
      unfold fI
      have hw:=B2.out.size
      have hone:yA ((w2.alloc (.cells #[zI zL tt.k,zI zL tt.a,.string (bs tt.t),zI zL tt.n,zI zL tt.d] 86)).alloc (.cells #[zI zL tt.k,zI zL tt.a,.string (bs tt.t),zI zL tt.n,zI zL tt.d] 86)) (w2.heap.size+1) tt:=by
       have h:=yA.new (w2.alloc (.cells #[zI zL tt.k,zI zL tt.a,.string (bs tt.t),zI zL tt.n,zI zL tt.d] 86)) tt 86
       rwa [World.size_alloc] at h
      have HONE:=zH hone
      clear hone
      go_wp2_with (refine ou (by rfl) (.tmp 34) (.tmp 36) (by rfl) w0.heap.size (.slice q pre.length cap) pre (by rfl) ((O2.out.alloc _).alloc _) (w2.heap.size+1) 1 tt (by rfl) HONE.out zac zai ?_;intro v3 w3 h3 g3)
      have B3:=zH (((B2.out.alloc hw _).alloc zai _).trans (((O2.out.alloc _).alloc _).grown g3 zai))
      have O3:=zH h3
      clear h3 g3 B2 O2 HONE
      have KS:Hid (Calls Tryz.prog 38 #[.string s,zI zL ((j:Int)+(n:Int))] w3 fun e w'=>e = .returned (zI zL (j+n+gp false (s.data.toList.drop (j+n)):Nat))/\w'=w3):=by
       have h:=nX s (j+n) w3 hjn hs
       rw[show(j:Int)+(n:Int)=((j+n:Nat):Int) by omega]
       exact h
      refine KS.out.mono ?_
      rintro _ w4 ⟨rfl,hw4⟩
      have H4:Hid (FP w0 s R v3 w4 f (j+n+gp false (s.data.toList.drop (j+n))) (pre++[tt])):=by
       have hle:=iP (s.data.toList.drop (j+n)) false
       rw[List.length_drop,ay] at hle
       have hd:s.data.toList.drop (j+n+gp false (s.data.toList.drop (j+n)))=(s.data.toList.drop (j+n)).drop (gp false (s.data.toList.drop (j+n))):=(List.drop_drop).symm
       rw[hw4]
       refine⟨B3.out,O3.out,by rw[List.length_append,List.length_singleton];omega,zac,?_,?_⟩
       ·exact DC
       ·rw[hd,<-mD,<-pJ];exact HE.out
      clear B3 O3 KS HE hw4
      go_wp2_with fail
      go_roundg f
      case measure=>omega
      case rel=>exact⟨f,_,_,rfl,Nat.le_refl _,H4⟩
   ·have hjz:¬(j:Int)<(s.size:Int):=by omega
    have HE:Hid (R = .ok pre):=by
     have:=H.out.2.2.2.2.2
     rw[List.drop_eq_nil_of_le (by rw[ay];omega),jT rfl] at this
     simp only[Res.app,List.append_nil] at this
     exact this.symm
    go_wp2_with fail
    go_ret3
    exact Gives.ok HE.out H.out.2.1 zac H.out.1 _ rfl
end Go.Proofs.YtnjfolljbfkojaaGreatDoor
namespace Go.Proofs.YtnjfolljbfkojaaGreatDoor
open Go.Value renaming int→zI
open Go.IntKind renaming i64→zL
open Go.Lib renaming hid→zH
open Go.RowKit Lx Pa
theorem eU (T n:Nat)(hu:(Tryz.prog.underlying T).map (fun d=>match d with | .struct _ | .array _ _=>true|_=>false)=some true)(hi:(Tryz.prog.info? T).map (·.size)=some n)(w:World)(b o:Nat)(l:List Value)(hl:l.length=n)(h:∀j v,l[j]? = some v->w.cell? ⟨b,o+j,none⟩=some v):(Instr.loadAt T (.pointer (some ⟨b,o,none⟩))).run Tryz.prog w = .ok (.agg l.toArray) w:=by
 have hc:(loadCells ⟨b,o,none⟩ l.length).run Tryz.prog w = .ok l.toArray w:=run_loadCells_list (P:=Tryz.prog) w ⟨b,o,none⟩ l (fun j v hv=>by
   rw[addr_add];exact h j v hv)
 exact zz85
theorem gY {s:Nat}:∀(L:List (List Value)),(∀l∈L,l.length=s)->L.flatten.length=L.length*s
 | [],_=>by simp
 | l::L,h=>by
  rw[List.flatten_cons,List.length_append,gY L (fun x hx=>h x (List.mem_cons_of_mem _ hx)),h l (List.mem_cons_self ..),List.length_cons,Nat.succ_mul,Nat.add_comm]
theorem j5 {s:Nat}:∀(L:List (List Value)) (i:Nat) (h:i<L.length),(∀l∈L,l.length=s)->∀(j:Nat) (v:Value),L[i][j]? = some v->L.flatten[i*s+j]? = some v
 | l::L,0,_,hs,j,v,h=>by
  have h:l[j]? = some v:=h
  rw[List.flatten_cons,Nat.zero_mul,Nat.zero_add,List.getElem?_append_left (List.getElem?_eq_some_iff.1 h).1];exact h
 | l::L,i+1,hi,hs,j,v,h=>by
  have:=j5 L i (by simpa using hi) (fun x hx=>hs x (List.mem_cons_of_mem _ hx)) j v h
  rw[List.flatten_cons,List.getElem?_append_right (by rw[hs l (List.mem_cons_self ..),Nat.succ_mul];omega),hs l (List.mem_cons_self ..),show(i+1)*s+j-s=i*s+j by rw[Nat.succ_mul];omega]
  exact this
theorem jB {w:World}{b:Nat}{l:List Value}(_:bI w b l){j:Nat}{v:Value}(h:l[j]? = some v):0<l.length:=by
 have:=(List.getElem?_eq_some_iff.1 h).1
 omega
theorem iC (t:Bool)(LD LE LR LS:List (List Value))(n m:Nat)(hD:LD.length=n)(hE:LE.length=n)(hR:LR.length=m)(hS:LS.length=m)(s1:∀l∈LD,l.length=8)(s2:∀l∈LE,l.length=8)(s3:∀l∈LR,l.length=28)(s4:∀l∈LS,l.length=28)
  (p1 p2 p3 p4:Option Addr)(g1 g2 g3 g4 c1 c2 c3 c4:Nat)(w:World)
  (q1:0<n->p1=some ⟨g1,0,none⟩/\bI w g1 LD.flatten)(q2:0<m->p2=some ⟨g2,0,none⟩/\bI w g2 LR.flatten)(q3:0<n->p3=some ⟨g3,0,none⟩/\bI w g3 LE.flatten)(q4:0<m->p4=some ⟨g4,0,none⟩/\bI w g4 LS.flatten)
  (KD:∀(i:Nat) (h:i<LD.length) (h':i<LE.length) (v:World),RowKit.Below w.heap.size w v->Calls Tryz.prog 12 #[.agg LD[i].toArray,.agg LE[i].toArray,.bool t] v fun e w'=>e = .returned (.bool true)/\RowKit.Below v.heap.size v w')
  (KR:∀(i:Nat) (h:i<LR.length) (h':i<LS.length) (v:World),RowKit.Below w.heap.size w v->Calls Tryz.prog 13 #[.agg LR[i].toArray,.agg LS[i].toArray,.bool t] v fun e w'=>e = .returned (.bool true)/\RowKit.Below v.heap.size v w')
  (hn:n<=1000000)(hm:m<=1000000) :
  Calls Tryz.prog 9 #[.agg #[.slice p1 n c1,.slice p2 m c2],.agg #[.slice p3 n c3,.slice p4 m c4],.bool t] w fun e w'=>e = .returned (.bool true)/\RowKit.Below w.heap.size w w':=by
 have al:∀(V:World) (o:Obj),RowKit.Below V.heap.size V (V.alloc o):=fun V o=>(Below.refl _ _).alloc (Nat.le_refl _) o
 obtain⟨W,hW⟩:∃W,W=(w.alloc (.cells #[.slice p1 n c1,.slice p2 m c2] 26)).alloc (.cells #[.slice p3 n c3,.slice p4 m c4] 26):=⟨_,rfl⟩
 have AX:Hid (At2 W w.heap.size (.slice p1 n c1) (.slice p2 m c2)):=by
  show At2 _ _ _ _
  rw[hW];exact(At2.new w _ _ 26).bel (al _ _)
 have AY:Hid (At2 W (w.heap.size+1) (.slice p3 n c3) (.slice p4 m c4)):=by
  have:=At2.new (w.alloc (.cells #[.slice p1 n c1,.slice p2 m c2] 26)) (.slice p3 n c3) (.slice p4 m c4) 26
  rw[World.size_alloc] at this
  show At2 _ _ _ _
  rw[hW];exact this
 have HB:Hid (RowKit.Below w.heap.size w W):=by
  show RowKit.Below _ _ _
  rw[hW];exact(al w _).trans ((al _ _).mono (by simp))
 have HZ7:Hid (RowKit.Below W.heap.size W W):=Below.refl _ _
 have HLD:=zH hD
 have HLE:=zH hE
 have HLR:=zH hR
 have HLS:=zH hS
 have SLD:=zH s1
 have SLE:=zH s2
 have SLR:=zH s3
 have SLS:=zH s4
 have Q1:=zH q1
 have Q2:=zH q2
 have Q3:=zH q3
 have Q4:=zH q4
 have HKD:=zH KD
 have HKR:=zH KR
 clear hD hE hR hS s1 s2 s3 s4 q1 q2 q3 q4 KD KR al
 go_enter Tryz.func9,Tryz.ntmps9
 go_wp2_with fail
 rw[<-hW]
 clear hW
 go_loopg [7] n (fun g s7 wr=>∃i:Nat,s7 = zI zL (i:Nat)/\i<=n/\n-i<=g/\Hid (RowKit.Below W.heap.size W wr))
 case atStart=>exact⟨0,by first|rfl|simp,zac,zac,Below.refl _ _⟩
 case round =>
  rename World=>wa
  obtain⟨i,rfl,hi,hg,HV⟩:=hrel
  have HW7:=zH (HZ7.out.trans (HV.out.mono HZ7.out.size))
  have HN7:=zH (HB.out.trans (HW7.out.mono HB.out.size))
  have x0:=(AX.out.bel HW7.out).c0
  have x1:=(AX.out.bel HW7.out).c1
  have y0:=(AY.out.bel HW7.out).c0
  have y1:=(AY.out.bel HW7.out).c1
  by_cases hlt:i<n
  ·have hz:(i:Int)<(n:Int):=by omega
   have hk1:IntKind.i64.wrap ((i:Int)+1)=((i+1:Nat):Int):=zal
   obtain⟨e1,r1⟩:=Q1.out zac
   obtain⟨e2,r2⟩:=Q3.out zac
   have hl1:(LD.flatten).length=n*8:=by rw[gY _ SLD.out,HLD.out]
   have hl2:(LE.flatten).length=n*8:=by rw[gY _ SLE.out,HLE.out]
   have r1':=zH (r1.bel zac HN7.out)
   have r2':=zH (r2.bel zac HN7.out)
   subst e1 e2
   clear r1 r2 hl1 hl2
   have KQ:=zH (fun v (hv:RowKit.Below wa.heap.size wa v)=>HKD.out i (by have:=HLD.out;omega) (by have:=HLE.out;omega) v (HN7.out.trans (hv.mono HN7.out.size)))
   have F1:Hid (∀j v,(LD[i]'(by have:=HLD.out;omega))[j]? = some v->LD.flatten[i*8+j]? = some v):=fun j v h=>j5 LD i (by have:=HLD.out;omega) SLD.out j v h
   have F2:Hid (∀j v,(LE[i]'(by have:=HLE.out;omega))[j]? = some v->LE.flatten[i*8+j]? = some v):=fun j v h=>j5 LE i (by have:=HLE.out;omega) SLE.out j v h
   have G1:Hid ((LD[i]'(by have:=HLD.out;omega)).length=8):=SLD.out _ (List.getElem_mem _)
   have G2:Hid ((LE[i]'(by have:=HLE.out;omega)).length=8):=SLE.out _ (List.getElem_mem _)
   generalize (LD[i]'(by have:=HLD.out;omega))=M1 at *
   generalize (LE[i]'(by have:=HLE.out;omega))=M2 at *
   go_wp2_with fail
   have hS:Hid (RowKit.Below wa.heap.size wa wa.drew):=(Below.refl _ _).drew
   have hbx:=World.block_lt_of_cell? _ _ x0
   have hby:=World.block_lt_of_cell? _ _ y0
   refine wp_region_held (S:=fun w':World=>Hid (RowKit.Below wa.heap.size wa w')) mixed ?_
   change wpAnyH _ _ _ _ _ _ _ _ wa.drew
   refine tk0 (v:= .pointer (some ⟨w.heap.size,0,none⟩)) zab zab zab (fun _ _ _ h=>h) (Or.inl ⟨zab,?_⟩) hS ?_
   ·intro w' hSw
    go_simp;try with_reducible rfl
   simp only[Act.put,zA,zB,zC]
   refine tk1 (v:= .slice (some ⟨g1,0,none⟩) n c1) zab zab zab (fun _ _ _ h=>h) (Or.inl ⟨zab,?_⟩) hS ?_
   ·intro w' hSw
    have hc:=(hSw.out.cell (p:=⟨w.heap.size,0,none⟩) hbx).trans x0
    go_simp;try with_reducible rfl
   simp only[Act.put,zA,zB,zC]
   refine tk2 (v:= zI zL (i:Nat)) zab zab zab (fun _ _ _ h=>h) (Or.inl ⟨zab,?_⟩) hS ?_
   ·intro w' hSw
    go_simp;try with_reducible rfl
   simp only[Act.put,zA,zB,zC]
   refine tk3 (v:= .pointer (some ⟨g1,i*8,none⟩)) zab zab zab (fun _ _ _ h=>h) (Or.inl ⟨zab,?_⟩) hS ?_
   ·intro w' hSw
    go_simp;try with_reducible rfl
   simp only[Act.put,zA,zB,zC]
   refine tk4 (v:= .agg M1.toArray) zab zab zab (fun _ _ _ h=>h) (Or.inl ⟨zab,?_⟩) hS ?_
   ·intro w' hSw
    exact aY rfl rfl (eU _ 8 zab zab _ g1 (i*8) _ G1.out (fun j v h=>(r1'.out.bel (jB r1'.out (F1.out j v h)) hSw.out) _ _ (F1.out j v h)))
   simp only[Act.put,zA,zB,zC]
   refine tk5 (v:= .pointer (some ⟨w.heap.size+1,0,none⟩)) zab zab zab (fun _ _ _ h=>h) (Or.inl ⟨zab,?_⟩) hS ?_
   ·intro w' hSw
    go_simp;try with_reducible rfl
   simp only[Act.put,zA,zB,zC]
   refine tk6 (v:= .slice (some ⟨g3,0,none⟩) n c3) zab zab zab (fun _ _ _ h=>h) (Or.inl ⟨zab,?_⟩) hS ?_
   ·intro w' hSw
    have hc:=(hSw.out.cell (p:=⟨w.heap.size+1,0,none⟩) hby).trans y0
    go_simp;try with_reducible rfl
   simp only[Act.put,zA,zB,zC]
   refine tk7 (v:= zI zL (i:Nat)) zab zab zab (fun _ _ _ h=>h) (Or.inl ⟨zab,?_⟩) hS ?_
   ·intro w' hSw
    go_simp;try with_reducible rfl
   simp only[Act.put,zA,zB,zC]
   refine tk8 (v:= .pointer (some ⟨g3,i*8,none⟩)) zab zab zab (fun _ _ _ h=>h) (Or.inl ⟨zab,?_⟩) hS ?_
   ·intro w' hSw
    go_simp;try with_reducible rfl
   simp only[Act.put,zA,zB,zC]
   refine tk9 (v:= .agg M2.toArray) zab zab zab (fun _ _ _ h=>h) (Or.inl ⟨zab,?_⟩) hS ?_
   ·intro w' hSw
    exact aY rfl rfl (eU _ 8 zab zab _ g3 (i*8) _ G2.out (fun j v h=>(r2'.out.bel (jB r2'.out (F2.out j v h)) hSw.out) _ _ (F2.out j v h)))
   simp only[Act.put,zA,zB,zC]
   refine Cs (v:= .bool t) zab zab zab (fun _ _ _ h=>h) (Or.inl ⟨zab,?_⟩) hS ?_
   ·intro w' hSw
    go_simp;try with_reducible rfl
   simp only[Act.put,zA,zB,zC]
   refine wpAnyH_ready (rs:=[11]) zab (by simp) (EU (fun K hK=>?_) AllReadyH.nil)
   refine(if_pos zab).mpr ?_
   refine gm rfl (by rfl) ?_
   refine(KQ.out _ hS.out).mono ?_
   rintro _ w11 ⟨rfl,hb⟩
   have hSw11:Hid (RowKit.Below wa.heap.size wa w11):=hS.out.trans (hb.mono hS.out.size)
   clear hb
   replace hS:=hSw11
   refine hK.out _ _ ?_ (fun hHeld=>?_)
   ·exact hS
   clear hK K
   try simp only[Act.put,zA,zB,zC]
   refine Fz (v:= .bool false) zab zab zab (fun _ _ _ h=>h) (Or.inl ⟨zab,?_⟩) hS ?_
   ·intro w' hSw
    go_simp;try with_reducible rfl
   simp only[Act.put,zA,zB,zC]
   refine wpAnyH_done zab ?_ _
   have HF:=zH (HV.out.trans (hS.out.mono HV.out.size))
   go_wp2_with fail
   go_roundg (n-(i+1))
   case measure=>omega
   case rel=>exact⟨i+1,by first|rfl|simp,zac,Nat.le_refl _,HF⟩
  ·obtain rfl:i=n:=by omega
   have hz:¬(i:Int)<(i:Int):=zac
   have HZ8:=zH HW7.out
   go_wp2_with fail
   clear x0 x1 y0 y1
   go_loopg [8] m (fun g s8 wr=>∃i:Nat,s8 = zI zL (i:Nat)/\i<=m/\m-i<=g/\Hid (RowKit.Below wa.heap.size wa wr))
   case atStart=>exact⟨0,by first|rfl|simp,zac,zac,Below.refl _ _⟩
   case round =>
    rename World=>wb
    obtain⟨i,rfl,hi,hg,HV⟩:=hrel
    have HW8:=zH (HZ8.out.trans (HV.out.mono HZ8.out.size))
    have HN8:=zH (HB.out.trans (HW8.out.mono HB.out.size))
    have x0:=(AX.out.bel HW8.out).c0
    have x1:=(AX.out.bel HW8.out).c1
    have y0:=(AY.out.bel HW8.out).c0
    have y1:=(AY.out.bel HW8.out).c1
    by_cases hlt:i<m
    ·have hz:(i:Int)<(m:Int):=by omega
     have hk1:IntKind.i64.wrap ((i:Int)+1)=((i+1:Nat):Int):=zal
     obtain⟨e1,r1⟩:=Q2.out zac
     obtain⟨e2,r2⟩:=Q4.out zac
     have hl1:(LR.flatten).length=m*28:=by rw[gY _ SLR.out,HLR.out]
     have hl2:(LS.flatten).length=m*28:=by rw[gY _ SLS.out,HLS.out]
     have r1':=zH (r1.bel zac HN8.out)
     have r2':=zH (r2.bel zac HN8.out)
     subst e1 e2
     clear r1 r2 hl1 hl2
     have KQ:=zH (fun v (hv:RowKit.Below wb.heap.size wb v)=>HKR.out i (by have:=HLR.out;omega) (by have:=HLS.out;omega) v (HN8.out.trans (hv.mono HN8.out.size)))
     have F1:Hid (∀j v,(LR[i]'(by have:=HLR.out;omega))[j]? = some v->LR.flatten[i*28+j]? = some v):=fun j v h=>j5 LR i (by have:=HLR.out;omega) SLR.out j v h
     have F2:Hid (∀j v,(LS[i]'(by have:=HLS.out;omega))[j]? = some v->LS.flatten[i*28+j]? = some v):=fun j v h=>j5 LS i (by have:=HLS.out;omega) SLS.out j v h
     have G1:Hid ((LR[i]'(by have:=HLR.out;omega)).length=28):=SLR.out _ (List.getElem_mem _)
     have G2:Hid ((LS[i]'(by have:=HLS.out;omega)).length=28):=SLS.out _ (List.getElem_mem _)
     generalize (LR[i]'(by have:=HLR.out;omega))=M1 at *
     generalize (LS[i]'(by have:=HLS.out;omega))=M2 at *
     go_wp2_with fail
     have hS:Hid (RowKit.Below wb.heap.size wb wb.drew):=(Below.refl _ _).drew
     have hbx:=World.block_lt_of_cell? _ _ x0
     have hby:=World.block_lt_of_cell? _ _ y0
     refine wp_region_held (S:=fun w':World=>Hid (RowKit.Below wb.heap.size wb w')) mixed ?_
     change wpAnyH _ _ _ _ _ _ _ _ wb.drew
     refine tk0 (v:= .pointer (some ⟨w.heap.size,1,none⟩)) zab zab zab (fun _ _ _ h=>h) (Or.inl ⟨zab,?_⟩) hS ?_
     ·intro w' hSw
      go_simp;try with_reducible rfl
     simp only[Act.put,zA,zB,zC]
     refine tk1 (v:= .slice (some ⟨g2,0,none⟩) m c2) zab zab zab (fun _ _ _ h=>h) (Or.inl ⟨zab,?_⟩) hS ?_
     ·intro w' hSw
      have hc:=(hSw.out.cell (p:=⟨w.heap.size,1,none⟩) hbx).trans x1
      go_simp;try with_reducible rfl
     simp only[Act.put,zA,zB,zC]
     refine tk2 (v:= zI zL (i:Nat)) zab zab zab (fun _ _ _ h=>h) (Or.inl ⟨zab,?_⟩) hS ?_
     ·intro w' hSw
      go_simp;try with_reducible rfl
     simp only[Act.put,zA,zB,zC]
     refine tk3 (v:= .pointer (some ⟨g2,i*28,none⟩)) zab zab zab (fun _ _ _ h=>h) (Or.inl ⟨zab,?_⟩) hS ?_
     ·intro w' hSw
      go_simp;try with_reducible rfl
     simp only[Act.put,zA,zB,zC]
     refine tk4 (v:= .agg M1.toArray) zab zab zab (fun _ _ _ h=>h) (Or.inl ⟨zab,?_⟩) hS ?_
     ·intro w' hSw
      exact aY rfl rfl (eU _ 28 zab zab _ g2 (i*28) _ G1.out (fun j v h=>(r1'.out.bel (jB r1'.out (F1.out j v h)) hSw.out) _ _ (F1.out j v h)))
     simp only[Act.put,zA,zB,zC]
     refine tk5 (v:= .pointer (some ⟨w.heap.size+1,1,none⟩)) zab zab zab (fun _ _ _ h=>h) (Or.inl ⟨zab,?_⟩) hS ?_
     ·intro w' hSw
      go_simp;try with_reducible rfl
     simp only[Act.put,zA,zB,zC]
     refine tk6 (v:= .slice (some ⟨g4,0,none⟩) m c4) zab zab zab (fun _ _ _ h=>h) (Or.inl ⟨zab,?_⟩) hS ?_
     ·intro w' hSw
      have hc:=(hSw.out.cell (p:=⟨w.heap.size+1,1,none⟩) hby).trans y1
      go_simp;try with_reducible rfl
     simp only[Act.put,zA,zB,zC]
     refine tk7 (v:= zI zL (i:Nat)) zab zab zab (fun _ _ _ h=>h) (Or.inl ⟨zab,?_⟩) hS ?_
     ·intro w' hSw
      go_simp;try with_reducible rfl
     simp only[Act.put,zA,zB,zC]
     refine tk8 (v:= .pointer (some ⟨g4,i*28,none⟩)) zab zab zab (fun _ _ _ h=>h) (Or.inl ⟨zab,?_⟩) hS ?_
     ·intro w' hSw
      go_simp;try with_reducible rfl
     simp only[Act.put,zA,zB,zC]
     refine tk9 (v:= .agg M2.toArray) zab zab zab (fun _ _ _ h=>h) (Or.inl ⟨zab,?_⟩) hS ?_
     ·intro w' hSw
      exact aY rfl rfl (eU _ 28 zab zab _ g4 (i*28) _ G2.out (fun j v h=>(r2'.out.bel (jB r2'.out (F2.out j v h)) hSw.out) _ _ (F2.out j v h)))
     simp only[Act.put,zA,zB,zC]
     refine Cs (v:= .bool t) zab zab zab (fun _ _ _ h=>h) (Or.inl ⟨zab,?_⟩) hS ?_
     ·intro w' hSw
      go_simp;try with_reducible rfl
     simp only[Act.put,zA,zB,zC]
     refine wpAnyH_ready (rs:=[11]) zab (by simp) (EU (fun K hK=>?_) AllReadyH.nil)
     refine(if_pos zab).mpr ?_
     refine gm rfl (by rfl) ?_
     refine(KQ.out _ hS.out).mono ?_
     rintro _ w11 ⟨rfl,hb⟩
     have hSw11:Hid (RowKit.Below wb.heap.size wb w11):=hS.out.trans (hb.mono hS.out.size)
     clear hb
     replace hS:=hSw11
     refine hK.out _ _ ?_ (fun hHeld=>?_)
     ·exact hS
     clear hK K
     try simp only[Act.put,zA,zB,zC]
     refine Fz (v:= .bool false) zab zab zab (fun _ _ _ h=>h) (Or.inl ⟨zab,?_⟩) hS ?_
     ·intro w' hSw
      go_simp;try with_reducible rfl
     simp only[Act.put,zA,zB,zC]
     refine wpAnyH_done zab ?_ _
     have HF:=zH (HV.out.trans (hS.out.mono HV.out.size))
     go_wp2_with fail
     go_roundg (m-(i+1))
     case measure=>omega
     case rel=>exact⟨i+1,by first|rfl|simp,zac,Nat.le_refl _,HF⟩
    ·obtain rfl:i=m:=by omega
     have hz:¬(i:Int)<(i:Int):=zac
     go_wp2_with fail
     go_ret
     exact⟨rfl,HN8.out⟩
theorem sQ (s:ByteArray)(hs:s.size<=281474976710656)(E:Int)(a:Nat)(h:lex Vh s.data.toList = .er E a)(w:World):Calls Tryz.prog 8 #[.string s] w fun e w'=>e = .returned (.tuple #[.agg #[zI zL 0,zI zL 0,.string ⟨#[]⟩,zI zL 0,zI zL 0,.bool false,zI zL 0,zI zL 0,zI zL 0,.slice none 0 0],zI zL E,zI zL (a:Nat)])/\RowKit.Below w.heap.size w w':=by
 have KL:=zH (fun w=>jy s w hs)
 have hE:=(lm h).1
 rw[h] at KL
 clear h
 have hE2:(E != 0)=true:=zcv
 have Z:=zH (B10.new w (zI zL 0) (zI zL 0) (.string ⟨#[]⟩) (zI zL 0) (zI zL 0) (.bool false) (zI zL 0) (zI zL 0) (zI zL 0) (.slice none 0 0) 36)
 have B:=zH ((Below.refl w.heap.size w).alloc (Nat.le_refl _) (.cells #[zI zL 0,zI zL 0,.string ⟨#[]⟩,zI zL 0,zI zL 0,.bool false,zI zL 0,zI zL 0,zI zL 0,.slice none 0 0] 36))
 go_enter Tryz.func8,Tryz.ntmps8
 go_wp2_with fail
 generalize w.alloc (.cells #[zI zL 0,zI zL 0,.string ⟨#[]⟩,zI zL 0,zI zL 0,.bool false,zI zL 0,zI zL 0,zI zL 0,.slice none 0 0] 36)=W1 at *
 refine(KL.out _).mono ?_
 rintro _ v1 ⟨q,b,cap,n,rfl,-,-,hb⟩
 replace Z:=zH (Z.out.bel hb)
 have BV:=zH (B.out.trans (hb.mono B.out.size))
 clear hb KL B hE
 obtain⟨n0,n1,n2,n3,n4,n5,n6,n7,n8,n9,m0,m1,m2,m3,m4,m5,m6,m7,m8,m9⟩:=Z.out
 simp only[Res.e,Res.a]
 go_wp2_with fail
 exact bodyPost_ret (v:= .tuple #[.agg #[zI zL 0,zI zL 0,.string ⟨#[]⟩,zI zL 0,zI zL 0,.bool false,zI zL 0,zI zL 0,zI zL 0,.slice none 0 0],zI zL E,zI zL (a:Nat)]) zbk rfl ⟨rfl,zae⟩
theorem nC (s:ByteArray)(hs:s.size<=281474976710656)(ts:List Tok)(h:lex Vh s.data.toList = .ok ts)(w:World):Calls Tryz.prog 8 #[.string s] w fun e w'=>(match bJ M0 ts with
  | .ok n _=>∃x,e = .returned (.tuple #[nv x,zI zL 0,zI zL 0])/\ah w' w.heap.size (ag ts s.size) n x/\RowKit.Below w.heap.size w w'
  | .er E q _=>e = .returned (.tuple #[.agg #[zI zL 0,zI zL 0,.string ⟨#[]⟩,zI zL 0,zI zL 0,.bool false,zI zL 0,zI zL 0,zI zL 0,.slice none 0 0],zI zL E,zI zL (ag ts s.size q)])/\RowKit.Below w.heap.size w w'):=by
 have KL:=zH (fun w=>jy s w hs)
 have hT:=lW h
 have hsh:=ib h
 rw[h] at KL
 clear h
 obtain⟨n0,hn0⟩:∃n,n=ts.length:=⟨_,rfl⟩
 have KX:Hid (∀(w:World) (q:Option Addr) (b cap n:Nat),SlT w q b 0 n ts->_):=fun w q b cap n hS=>qY (p:=q) (b:=b) (off:=0) (cap:=cap) (n:=n) (En:=s.size) hT ⟨0,0,0⟩ (Nat.zero_le _) w hS
 obtain⟨En,hEn⟩:∃n,n=s.size:=⟨_,rfl⟩
 rw[<-hEn] at KX |-
 have HEn:=zH hEn
 clear hEn
 have hg:=fe (M:=M0) ts
 unfold bJ
 cases hx:rd M0 .ex ts with
 | er E q m =>
  obtain⟨r1,r2⟩:=iJ (ts:=ts) (En:=En) (k:=0) (O:=0) (o:=rd M0 .ex) hx rfl
  rw[r1,r2] at KX
  rw[hx] at hg
  have hE:E≠0:=by rcases hg.1 with e|e|e<;>rw[e]<;>decide
  simp only[lU]
  have hE1:(E==0)=false:=zcv
  have hE2:(E != 0)=true:=zcv
  generalize ts.length-m=k1 at *
  generalize ag ts En q=O1 at *
  clear hx hg hE r1 r2
  have Z:=zH (B10.new w (zI zL 0) (zI zL 0) (.string ⟨#[]⟩) (zI zL 0) (zI zL 0) (.bool false) (zI zL 0) (zI zL 0) (zI zL 0) (.slice none 0 0) 36)
  have B:=zH ((Below.refl w.heap.size w).alloc (Nat.le_refl _) (.cells #[zI zL 0,zI zL 0,.string ⟨#[]⟩,zI zL 0,zI zL 0,.bool false,zI zL 0,zI zL 0,zI zL 0,.slice none 0 0] 36))
  go_enter Tryz.func8,Tryz.ntmps8
  go_wp2_with fail
  generalize w.alloc (.cells #[zI zL 0,zI zL 0,.string ⟨#[]⟩,zI zL 0,zI zL 0,.bool false,zI zL 0,zI zL 0,zI zL 0,.slice none 0 0] 36)=W1 at *
  refine(KL.out _).mono ?_
  rintro _ v1 ⟨q,b,cap,n,rfl,hS,-,hb⟩
  replace Z:=zH (Z.out.bel hb)
  replace B:=zH (B.out.trans (hb.mono B.out.size))
  clear hb KL
  change SlT _ _ _ _ _ ts at hS
  have hl:=hS.ln
  have hmx:=hS.max
  obtain rfl:n=n0:=zac
  clear hl hn0
  have HS:=zH hS
  clear hS
  simp only[Res.e,Res.a]
  rw[show((0:Nat):Int)=0 from rfl]
  have hlo:=World.block_lt_of_cell? _ _ Z.out.c0
  simp only at hlo
  go_wp2_with fail
  rw[<-HEn.out]
  refine(KX.out _ _ _ _ _ HS.out).mono ?_
  rintro _ v3 ⟨⟨xo,xa,xs,xn,xd,xf,xm,xr,xy,xq,xk,xc⟩,rfl,hn,hb⟩
  have hvx:=hb.size
  replace Z:=zH (Z.out.bel hb)
  replace B:=zH (B.out.trans (hb.mono B.out.size))
  have HS2:=zH (HS.out.bel hb)
  have Nx:=zH hn
  clear hb hn
  go_wp2_with fail
  have hb1:=(Below.refl v3.heap.size v3).alloc (Nat.le_refl _) (.cells #[zI zL xo,zI zL xa,.string xs,zI zL xn,zI zL xd,.bool xf,zI zL xm,zI zL xr,zI zL xy,.slice xq xk xc] 36)
  have hb2:=(Below.refl (v3.alloc (.cells #[zI zL xo,zI zL xa,.string xs,zI zL xn,zI zL xd,.bool xf,zI zL xm,zI zL xr,zI zL xy,.slice xq xk xc] 36)).heap.size (v3.alloc (.cells #[zI zL xo,zI zL xa,.string xs,zI zL xn,zI zL xd,.bool xf,zI zL xm,zI zL xr,zI zL xy,.slice xq xk xc] 36))).alloc (Nat.le_refl _) (.cells #[.slice q n cap,zI zL (k1:Nat),zI zL En,zI zL E,zI zL O1] 62)
  have X:=zH ((B10.new v3 (zI zL xo) (zI zL xa) (.string xs) (zI zL xn) (zI zL xd) (.bool xf) (zI zL xm) (zI zL xr) (zI zL xy) (.slice xq xk xc) 36).bel hb2)
  have Y:=zH (B5.new (v3.alloc (.cells #[zI zL xo,zI zL xa,.string xs,zI zL xn,zI zL xd,.bool xf,zI zL xm,zI zL xr,zI zL xy,.slice xq xk xc] 36)) (.slice q n cap) (zI zL (k1:Nat)) (zI zL En) (zI zL E) (zI zL O1) 62)
  rw[show(v3.alloc (.cells #[zI zL xo,zI zL xa,.string xs,zI zL xn,zI zL xd,.bool xf,zI zL xm,zI zL xr,zI zL xy,.slice xq xk xc] 36)).heap.size=v3.heap.size+1 by simp] at Y
  replace Z:=zH ((Z.out.bel hb1).bel hb2)
  replace B:=zH ((B.out.trans (hb1.mono B.out.size)).trans (hb2.mono zcr))
  replace Nx:=zH (fun u hu=>ah.bel hb2 _ _ (ah.bel hb1 _ _ (Nx.out u hu)))
  replace HS:=zH ((HS2.out.bel hb1).bel hb2)
  clear hb1 hb2 HS2
  generalize ((v3.alloc (.cells #[zI zL xo,zI zL xa,.string xs,zI zL xn,zI zL xd,.bool xf,zI zL xm,zI zL xr,zI zL xy,.slice xq xk xc] 36)).alloc (.cells #[.slice q n cap,zI zL (k1:Nat),zI zL En,zI zL E,zI zL O1] 62))=V at *
  have hb0:v3.heap.size+1≠v3.heap.size:=zac
  have hw1:w.heap.size<v3.heap.size:=zac
  have hw2:w.heap.size<v3.heap.size+1:=zac
  generalize v3.heap.size+1=by0 at *
  generalize v3.heap.size=bx0 at *
  obtain⟨y0,y1,y2,y3,y4,f0,f1,f2,f3,f4⟩:=Y.out
  obtain⟨x0,x1,x2,x3,x4,x5,x6,x7,x8,x9,-,-,-,-,-,-,-,-,-,-⟩:=X.out
  have hS:Hid (B5 V.drew by0 (.slice q n cap) (zI zL (k1:Nat)) (zI zL En) (zI zL E) (zI zL O1)):=Y.out.bel (Below.refl _ _).drew
  refine wp_region_held (S:=fun w':World=>Hid (B5 w' by0 (.slice q n cap) (zI zL (k1:Nat)) (zI zL En) (zI zL E) (zI zL O1))) mixed ?_
  change wpAnyH _ _ _ _ _ _ _ _ V.drew
  refine tk0 (v:= .agg #[zI zL 0,zI zL 0,.string ⟨#[]⟩,zI zL 0,zI zL 0,.bool false,zI zL 0,zI zL 0,zI zL 0,.slice none 0 0]) zab zab zab (fun _ _ _ h=>h) (Or.inl ⟨zab,?_⟩) hS ?_
  ·intro w' hSw
   go_simp;try with_reducible rfl
  simp only[Act.put,zA,zB,zC]
  refine tk1 (v:= .pointer (some ⟨by0,3,none⟩)) zab zab zab (fun _ _ _ h=>h) (Or.inl ⟨zab,?_⟩) hS ?_
  ·intro w' hSw
   go_simp;try with_reducible rfl
  simp only[Act.put,zA,zB,zC]
  refine tk2 (v:= zI zL E) zab zab zab (fun _ _ _ h=>h) (Or.inl ⟨zab,?_⟩) hS ?_
  ·intro w' hSw
   obtain⟨h0,h1,h2,h3,h4,-⟩:=hSw.out
   go_simp;try with_reducible rfl
  simp only[Act.put,zA,zB,zC]
  refine tk3 (v:= .pointer (some ⟨by0,4,none⟩)) zab zab zab (fun _ _ _ h=>h) (Or.inl ⟨zab,?_⟩) hS ?_
  ·intro w' hSw
   go_simp;try with_reducible rfl
  simp only[Act.put,zA,zB,zC]
  refine tk4 (v:= zI zL O1) zab zab zab (fun _ _ _ h=>h) (Or.inl ⟨zab,?_⟩) hS ?_
  ·intro w' hSw
   obtain⟨h0,h1,h2,h3,h4,-⟩:=hSw.out
   go_simp;try with_reducible rfl
  simp only[Act.put,zA,zB,zC]
  have hb:=(Below.refl V.heap.size V).drew
  replace Z:=zH (Z.out.bel hb)
  replace B:=zH (B.out.trans (hb.mono B.out.size))
  replace X:=zH (X.out.bel hb)
  replace Y:=zH (Y.out.bel hb)
  clear hb
  generalize V.drew=VE at *
  obtain⟨n0,n1,n2,n3,n4,n5,n6,n7,n8,n9,m0,m1,m2,m3,m4,m5,m6,m7,m8,m9⟩:=Z.out
  have BV:=zH B.out
  refine wpAnyH_ready (rs:=[5]) zab (by simp) (st5 (fun K hK=>?_) AllReadyH.nil)
  go_simp
  have hk:=Kept.set10 (Kept.refl w.heap.size VE) (zI zL 0) (zI zL 0) (.string ⟨#[]⟩) (zI zL 0) (zI zL 0) (.bool false) (zI zL 0) (zI zL 0) (zI zL 0) (.slice none 0 0)
  have hS0:=hS
  replace hS:Hid (B5 _ by0 (.slice q n cap) (zI zL (k1:Nat)) (zI zL En) (zI zL E) (zI zL O1)):=hS0.out.kept hk zac
  clear hk hS0
  refine hK.out _ _ ?_ (fun hHeld=>?_)
  ·exact hS
  clear hK K
  try simp only[Act.put,zA,zB,zC]
  refine wpAnyH_ready (rs:=[6]) zab (by simp) (st6 (fun K hK=>?_) AllReadyH.nil)
  go_simp
  refine hK.out _ _ ?_ (fun hHeld=>?_)
  ·exact hS
  clear hK K
  try simp only[Act.put,zA,zB,zC]
  refine wpAnyH_ready (rs:=[7]) zab (by simp) (st7 (fun K hK=>?_) AllReadyH.nil)
  go_simp
  refine hK.out _ _ ?_ (fun hHeld=>?_)
  ·exact hS
  clear hK K
  try simp only[Act.put,zA,zB,zC]
  refine wpAnyH_done zab ?_ _
  go_wp2_with fail
  exact bodyPost_ret (v:= .tuple #[.agg #[zI zL 0,zI zL 0,.string ⟨#[]⟩,zI zL 0,zI zL 0,.bool false,zI zL 0,zI zL 0,zI zL 0,.slice none 0 0],zI zL E,zI zL O1]) zbk rfl ⟨rfl,zae⟩
 | ok u r =>
  obtain⟨pre,hpre,-⟩:=hx▸hg
  have hd:ts.drop (ts.length-r.length)=r:=(drop_left (k:=0) hpre (Nat.zero_le _)).1
  obtain⟨r1,r2⟩:=fJ (ts:=ts) (En:=En) (k:=0) (O:=0) (o:=rd M0 .ex) (k':=ts.length-r.length) (by rw[hd];exact hx) zac
  rw[r1,r2] at KX
  simp only[bind_ok]
  clear hg r1 r2 hd
  have hrl:r.length<=ts.length:=by have:=congrArg List.length hpre;simp at this;omega
  by_cases hr:r.length=0
  ·rw[if_neg zac]
   rw[hr] at KX
   have hsz:u.siz<=1000000:=by have:=qO hx;omega
   have HA:Hid (∀{lo:Nat} (w:World) (x:NV),ah w lo (ag ts En) u x->x.a=ag ts En u.pl):=fun {lo} w x hx=>by cases u;unfold ah NodeA at hx;exact hx.1.2.1
   have KS:Hid (∀{lo:Nat} (w:World) (x:NV),ah w lo (ag ts En) u x->_):=fun {lo} w x hx=>nS u hsz _ _ x w hx
   have KD:Hid (∀{lo:Nat} (w:World) (x:NV),ah w lo (ag ts En) u x->_):=fun {lo} w x hx=>kX _ u (Nat.le_refl _) hsz _ _ x w hx
   rw[Nat.sub_zero,<-hn0] at KX
   obtain⟨S,hSz⟩:∃S:Nat,S=(if u.dep<=100/\u.siz<=400 then u.siz else 1000):=⟨_,rfl⟩
   have hbig:big u=true↔(200<S\/20<u.dep):=by
    unfold big
    simp only[Bool.or_eq_true,decide_eq_true_eq]
    rw[hSz]
    split<;>omega
   rw[<-hSz] at KS
   clear hSz hsz hx hpre hrl hr hsh
   generalize u.dep=D at *
   cases hb0:big u with
   | true =>
    have hor:=hbig.1 hb0
    simp only[if_true]
    clear hbig hb0
    by_cases hs:200<S
    ·have hs2:(200:Int)<(S:Int):=by omega
     clear hor hs
     have Z:=zH (B10.new w (zI zL 0) (zI zL 0) (.string ⟨#[]⟩) (zI zL 0) (zI zL 0) (.bool false) (zI zL 0) (zI zL 0) (zI zL 0) (.slice none 0 0) 36)
     have B:=zH ((Below.refl w.heap.size w).alloc (Nat.le_refl _) (.cells #[zI zL 0,zI zL 0,.string ⟨#[]⟩,zI zL 0,zI zL 0,.bool false,zI zL 0,zI zL 0,zI zL 0,.slice none 0 0] 36))
     go_enter Tryz.func8,Tryz.ntmps8
     go_wp2_with fail
     generalize w.alloc (.cells #[zI zL 0,zI zL 0,.string ⟨#[]⟩,zI zL 0,zI zL 0,.bool false,zI zL 0,zI zL 0,zI zL 0,.slice none 0 0] 36)=W1 at *
     refine(KL.out _).mono ?_
     rintro _ v1 ⟨q,b,cap,n,rfl,hS,-,hb⟩
     replace Z:=zH (Z.out.bel hb)
     replace B:=zH (B.out.trans (hb.mono B.out.size))
     clear hb KL
     change SlT _ _ _ _ _ ts at hS
     have hl:=hS.ln
     have hmx:=hS.max
     obtain rfl:n=n0:=zac
     clear hl hn0
     have HS:=zH hS
     clear hS
     simp only[Res.e,Res.a]
     rw[show((0:Nat):Int)=0 from rfl]
     have hlo:=World.block_lt_of_cell? _ _ Z.out.c0
     simp only at hlo
     go_wp2_with fail
     rw[<-HEn.out]
     refine(KX.out _ _ _ _ _ HS.out).mono ?_
     rintro _ v3 ⟨⟨xo,xa,xs,xn,xd,xf,xm,xr,xy,xq,xk,xc⟩,rfl,hn,hb⟩
     have hvx:=hb.size
     replace Z:=zH (Z.out.bel hb)
     replace B:=zH (B.out.trans (hb.mono B.out.size))
     have HS2:=zH (HS.out.bel hb)
     have Nx:=zH hn
     clear hb hn
     go_wp2_with fail
     have hb1:=(Below.refl v3.heap.size v3).alloc (Nat.le_refl _) (.cells #[zI zL xo,zI zL xa,.string xs,zI zL xn,zI zL xd,.bool xf,zI zL xm,zI zL xr,zI zL xy,.slice xq xk xc] 36)
     have hb2:=(Below.refl (v3.alloc (.cells #[zI zL xo,zI zL xa,.string xs,zI zL xn,zI zL xd,.bool xf,zI zL xm,zI zL xr,zI zL xy,.slice xq xk xc] 36)).heap.size (v3.alloc (.cells #[zI zL xo,zI zL xa,.string xs,zI zL xn,zI zL xd,.bool xf,zI zL xm,zI zL xr,zI zL xy,.slice xq xk xc] 36))).alloc (Nat.le_refl _) (.cells #[.slice q n cap,zI zL (n:Nat),zI zL En,zI zL 0,zI zL 0] 62)
     have X:=zH ((B10.new v3 (zI zL xo) (zI zL xa) (.string xs) (zI zL xn) (zI zL xd) (.bool xf) (zI zL xm) (zI zL xr) (zI zL xy) (.slice xq xk xc) 36).bel hb2)
     have Y:=zH (B5.new (v3.alloc (.cells #[zI zL xo,zI zL xa,.string xs,zI zL xn,zI zL xd,.bool xf,zI zL xm,zI zL xr,zI zL xy,.slice xq xk xc] 36)) (.slice q n cap) (zI zL (n:Nat)) (zI zL En) (zI zL 0) (zI zL 0) 62)
     rw[show(v3.alloc (.cells #[zI zL xo,zI zL xa,.string xs,zI zL xn,zI zL xd,.bool xf,zI zL xm,zI zL xr,zI zL xy,.slice xq xk xc] 36)).heap.size=v3.heap.size+1 by simp] at Y
     replace Z:=zH ((Z.out.bel hb1).bel hb2)
     replace B:=zH ((B.out.trans (hb1.mono B.out.size)).trans (hb2.mono zcr))
     replace Nx:=zH (fun u hu=>ah.bel hb2 _ _ (ah.bel hb1 _ _ (Nx.out u hu)))
     replace HS:=zH ((HS2.out.bel hb1).bel hb2)
     clear hb1 hb2 HS2
     generalize ((v3.alloc (.cells #[zI zL xo,zI zL xa,.string xs,zI zL xn,zI zL xd,.bool xf,zI zL xm,zI zL xr,zI zL xy,.slice xq xk xc] 36)).alloc (.cells #[.slice q n cap,zI zL (n:Nat),zI zL En,zI zL 0,zI zL 0] 62))=V at *
     have hb0:v3.heap.size+1≠v3.heap.size:=zac
     have hw1:w.heap.size<v3.heap.size:=zac
     have hw2:w.heap.size<v3.heap.size+1:=zac
     generalize v3.heap.size+1=by0 at *
     generalize v3.heap.size=bx0 at *
     obtain⟨y0,y1,y2,y3,y4,f0,f1,f2,f3,f4⟩:=Y.out
     obtain⟨x0,x1,x2,x3,x4,x5,x6,x7,x8,x9,-,-,-,-,-,-,-,-,-,-⟩:=X.out
     replace Nx:=zH (Nx.out u rfl)
     have K:=KS.out _ _ Nx.out
     simp only[nv] at K
     refine K.mono ?_
     clear K
     rintro _ v5 ⟨rfl,hb⟩
     exact zz9
    ·have hs2:¬(200:Int)<(S:Int):=by omega
     have hd2:(20:Int)<(D:Int):=zac
     clear hor hs
     have Z:=zH (B10.new w (zI zL 0) (zI zL 0) (.string ⟨#[]⟩) (zI zL 0) (zI zL 0) (.bool false) (zI zL 0) (zI zL 0) (zI zL 0) (.slice none 0 0) 36)
     have B:=zH ((Below.refl w.heap.size w).alloc (Nat.le_refl _) (.cells #[zI zL 0,zI zL 0,.string ⟨#[]⟩,zI zL 0,zI zL 0,.bool false,zI zL 0,zI zL 0,zI zL 0,.slice none 0 0] 36))
     go_enter Tryz.func8,Tryz.ntmps8
     go_wp2_with fail
     generalize w.alloc (.cells #[zI zL 0,zI zL 0,.string ⟨#[]⟩,zI zL 0,zI zL 0,.bool false,zI zL 0,zI zL 0,zI zL 0,.slice none 0 0] 36)=W1 at *
     refine(KL.out _).mono ?_
     rintro _ v1 ⟨q,b,cap,n,rfl,hS,-,hb⟩
     replace Z:=zH (Z.out.bel hb)
     replace B:=zH (B.out.trans (hb.mono B.out.size))
     clear hb KL
     change SlT _ _ _ _ _ ts at hS
     have hl:=hS.ln
     have hmx:=hS.max
     obtain rfl:n=n0:=zac
     clear hl hn0
     have HS:=zH hS
     clear hS
     simp only[Res.e,Res.a]
     rw[show((0:Nat):Int)=0 from rfl]
     have hlo:=World.block_lt_of_cell? _ _ Z.out.c0
     simp only at hlo
     go_wp2_with fail
     rw[<-HEn.out]
     refine(KX.out _ _ _ _ _ HS.out).mono ?_
     rintro _ v3 ⟨⟨xo,xa,xs,xn,xd,xf,xm,xr,xy,xq,xk,xc⟩,rfl,hn,hb⟩
     have hvx:=hb.size
     replace Z:=zH (Z.out.bel hb)
     replace B:=zH (B.out.trans (hb.mono B.out.size))
     have HS2:=zH (HS.out.bel hb)
     have Nx:=zH hn
     clear hb hn
     go_wp2_with fail
     have hb1:=(Below.refl v3.heap.size v3).alloc (Nat.le_refl _) (.cells #[zI zL xo,zI zL xa,.string xs,zI zL xn,zI zL xd,.bool xf,zI zL xm,zI zL xr,zI zL xy,.slice xq xk xc] 36)
     have hb2:=(Below.refl (v3.alloc (.cells #[zI zL xo,zI zL xa,.string xs,zI zL xn,zI zL xd,.bool xf,zI zL xm,zI zL xr,zI zL xy,.slice xq xk xc] 36)).heap.size (v3.alloc (.cells #[zI zL xo,zI zL xa,.string xs,zI zL xn,zI zL xd,.bool xf,zI zL xm,zI zL xr,zI zL xy,.slice xq xk xc] 36))).alloc (Nat.le_refl _) (.cells #[.slice q n cap,zI zL (n:Nat),zI zL En,zI zL 0,zI zL 0] 62)
     have X:=zH ((B10.new v3 (zI zL xo) (zI zL xa) (.string xs) (zI zL xn) (zI zL xd) (.bool xf) (zI zL xm) (zI zL xr) (zI zL xy) (.slice xq xk xc) 36).bel hb2)
     have Y:=zH (B5.new (v3.alloc (.cells #[zI zL xo,zI zL xa,.string xs,zI zL xn,zI zL xd,.bool xf,zI zL xm,zI zL xr,zI zL xy,.slice xq xk xc] 36)) (.slice q n cap) (zI zL (n:Nat)) (zI zL En) (zI zL 0) (zI zL 0) 62)
     rw[show(v3.alloc (.cells #[zI zL xo,zI zL xa,.string xs,zI zL xn,zI zL xd,.bool xf,zI zL xm,zI zL xr,zI zL xy,.slice xq xk xc] 36)).heap.size=v3.heap.size+1 by simp] at Y
     replace Z:=zH ((Z.out.bel hb1).bel hb2)
     replace B:=zH ((B.out.trans (hb1.mono B.out.size)).trans (hb2.mono zcr))
     replace Nx:=zH (fun u hu=>ah.bel hb2 _ _ (ah.bel hb1 _ _ (Nx.out u hu)))
     replace HS:=zH ((HS2.out.bel hb1).bel hb2)
     clear hb1 hb2 HS2
     generalize ((v3.alloc (.cells #[zI zL xo,zI zL xa,.string xs,zI zL xn,zI zL xd,.bool xf,zI zL xm,zI zL xr,zI zL xy,.slice xq xk xc] 36)).alloc (.cells #[.slice q n cap,zI zL (n:Nat),zI zL En,zI zL 0,zI zL 0] 62))=V at *
     have hb0:v3.heap.size+1≠v3.heap.size:=zac
     have hw1:w.heap.size<v3.heap.size:=zac
     have hw2:w.heap.size<v3.heap.size+1:=zac
     generalize v3.heap.size+1=by0 at *
     generalize v3.heap.size=bx0 at *
     obtain⟨y0,y1,y2,y3,y4,f0,f1,f2,f3,f4⟩:=Y.out
     obtain⟨x0,x1,x2,x3,x4,x5,x6,x7,x8,x9,-,-,-,-,-,-,-,-,-,-⟩:=X.out
     replace Nx:=zH (Nx.out u rfl)
     have K:=KS.out _ _ Nx.out
     simp only[nv] at K
     refine K.mono ?_
     clear K
     rintro _ v5 ⟨rfl,hb⟩
     replace Z:=zH (Z.out.bel hb)
     replace B:=zH (B.out.trans (hb.mono B.out.size))
     replace X:=zH (X.out.bel hb)
     replace Y:=zH (Y.out.bel hb)
     replace Nx:=zH (ah.bel hb _ _ Nx.out)
     clear hb y0 y1 y2 y3 y4 f0 f1 f2 f3 f4 x0 x1 x2 x3 x4 x5 x6 x7 x8 x9
     obtain⟨y0,y1,y2,y3,y4,f0,f1,f2,f3,f4⟩:=Y.out
     obtain⟨x0,x1,x2,x3,x4,x5,x6,x7,x8,x9,-,-,-,-,-,-,-,-,-,-⟩:=X.out
     go_wp2_with fail
     have K:=KD.out _ _ Nx.out
     simp only[nv] at K
     refine K.mono ?_
     clear K
     rintro _ v6 ⟨rfl,hb⟩
     exact zz9
   | false =>
    have hno:¬(200<S\/20<D):=fun h=>by rw[hbig.2 h] at hb0;cases hb0
    have hs2:¬(200:Int)<(S:Int):=zac
    have hd2:¬(20:Int)<(D:Int):=zac
    simp only[Bool.false_eq_true,if_false]
    clear hbig hb0 hno
    have Z:=zH (B10.new w (zI zL 0) (zI zL 0) (.string ⟨#[]⟩) (zI zL 0) (zI zL 0) (.bool false) (zI zL 0) (zI zL 0) (zI zL 0) (.slice none 0 0) 36)
    have B:=zH ((Below.refl w.heap.size w).alloc (Nat.le_refl _) (.cells #[zI zL 0,zI zL 0,.string ⟨#[]⟩,zI zL 0,zI zL 0,.bool false,zI zL 0,zI zL 0,zI zL 0,.slice none 0 0] 36))
    go_enter Tryz.func8,Tryz.ntmps8
    go_wp2_with fail
    generalize w.alloc (.cells #[zI zL 0,zI zL 0,.string ⟨#[]⟩,zI zL 0,zI zL 0,.bool false,zI zL 0,zI zL 0,zI zL 0,.slice none 0 0] 36)=W1 at *
    refine(KL.out _).mono ?_
    rintro _ v1 ⟨q,b,cap,n,rfl,hS,-,hb⟩
    replace Z:=zH (Z.out.bel hb)
    replace B:=zH (B.out.trans (hb.mono B.out.size))
    clear hb KL
    change SlT _ _ _ _ _ ts at hS
    have hl:=hS.ln
    have hmx:=hS.max
    obtain rfl:n=n0:=zac
    clear hl hn0
    have HS:=zH hS
    clear hS
    simp only[Res.e,Res.a]
    rw[show((0:Nat):Int)=0 from rfl]
    have hlo:=World.block_lt_of_cell? _ _ Z.out.c0
    simp only at hlo
    go_wp2_with fail
    rw[<-HEn.out]
    refine(KX.out _ _ _ _ _ HS.out).mono ?_
    rintro _ v3 ⟨⟨xo,xa,xs,xn,xd,xf,xm,xr,xy,xq,xk,xc⟩,rfl,hn,hb⟩
    have hvx:=hb.size
    replace Z:=zH (Z.out.bel hb)
    replace B:=zH (B.out.trans (hb.mono B.out.size))
    have HS2:=zH (HS.out.bel hb)
    have Nx:=zH hn
    clear hb hn
    go_wp2_with fail
    have hb1:=(Below.refl v3.heap.size v3).alloc (Nat.le_refl _) (.cells #[zI zL xo,zI zL xa,.string xs,zI zL xn,zI zL xd,.bool xf,zI zL xm,zI zL xr,zI zL xy,.slice xq xk xc] 36)
    have hb2:=(Below.refl (v3.alloc (.cells #[zI zL xo,zI zL xa,.string xs,zI zL xn,zI zL xd,.bool xf,zI zL xm,zI zL xr,zI zL xy,.slice xq xk xc] 36)).heap.size (v3.alloc (.cells #[zI zL xo,zI zL xa,.string xs,zI zL xn,zI zL xd,.bool xf,zI zL xm,zI zL xr,zI zL xy,.slice xq xk xc] 36))).alloc (Nat.le_refl _) (.cells #[.slice q n cap,zI zL (n:Nat),zI zL En,zI zL 0,zI zL 0] 62)
    have X:=zH ((B10.new v3 (zI zL xo) (zI zL xa) (.string xs) (zI zL xn) (zI zL xd) (.bool xf) (zI zL xm) (zI zL xr) (zI zL xy) (.slice xq xk xc) 36).bel hb2)
    have Y:=zH (B5.new (v3.alloc (.cells #[zI zL xo,zI zL xa,.string xs,zI zL xn,zI zL xd,.bool xf,zI zL xm,zI zL xr,zI zL xy,.slice xq xk xc] 36)) (.slice q n cap) (zI zL (n:Nat)) (zI zL En) (zI zL 0) (zI zL 0) 62)
    rw[show(v3.alloc (.cells #[zI zL xo,zI zL xa,.string xs,zI zL xn,zI zL xd,.bool xf,zI zL xm,zI zL xr,zI zL xy,.slice xq xk xc] 36)).heap.size=v3.heap.size+1 by simp] at Y
    replace Z:=zH ((Z.out.bel hb1).bel hb2)
    replace B:=zH ((B.out.trans (hb1.mono B.out.size)).trans (hb2.mono zcr))
    replace Nx:=zH (fun u hu=>ah.bel hb2 _ _ (ah.bel hb1 _ _ (Nx.out u hu)))
    replace HS:=zH ((HS2.out.bel hb1).bel hb2)
    clear hb1 hb2 HS2
    generalize ((v3.alloc (.cells #[zI zL xo,zI zL xa,.string xs,zI zL xn,zI zL xd,.bool xf,zI zL xm,zI zL xr,zI zL xy,.slice xq xk xc] 36)).alloc (.cells #[.slice q n cap,zI zL (n:Nat),zI zL En,zI zL 0,zI zL 0] 62))=V at *
    have hb0:v3.heap.size+1≠v3.heap.size:=zac
    have hw1:w.heap.size<v3.heap.size:=zac
    have hw2:w.heap.size<v3.heap.size+1:=zac
    generalize v3.heap.size+1=by0 at *
    generalize v3.heap.size=bx0 at *
    obtain⟨y0,y1,y2,y3,y4,f0,f1,f2,f3,f4⟩:=Y.out
    obtain⟨x0,x1,x2,x3,x4,x5,x6,x7,x8,x9,-,-,-,-,-,-,-,-,-,-⟩:=X.out
    replace Nx:=zH (Nx.out u rfl)
    have K:=KS.out _ _ Nx.out
    simp only[nv] at K
    refine K.mono ?_
    clear K
    rintro _ v5 ⟨rfl,hb⟩
    replace Z:=zH (Z.out.bel hb)
    replace B:=zH (B.out.trans (hb.mono B.out.size))
    replace X:=zH (X.out.bel hb)
    replace Y:=zH (Y.out.bel hb)
    replace Nx:=zH (ah.bel hb _ _ Nx.out)
    clear hb y0 y1 y2 y3 y4 f0 f1 f2 f3 f4 x0 x1 x2 x3 x4 x5 x6 x7 x8 x9
    obtain⟨y0,y1,y2,y3,y4,f0,f1,f2,f3,f4⟩:=Y.out
    obtain⟨x0,x1,x2,x3,x4,x5,x6,x7,x8,x9,-,-,-,-,-,-,-,-,-,-⟩:=X.out
    go_wp2_with fail
    have K:=KD.out _ _ Nx.out
    simp only[nv] at K
    refine K.mono ?_
    clear K
    rintro _ v6 ⟨rfl,hb⟩
    replace Z:=zH (Z.out.bel hb)
    replace B:=zH (B.out.trans (hb.mono B.out.size))
    replace X:=zH (X.out.bel hb)
    replace Y:=zH (Y.out.bel hb)
    replace Nx:=zH (ah.bel hb _ _ Nx.out)
    clear hb y0 y1 y2 y3 y4 f0 f1 f2 f3 f4 x0 x1 x2 x3 x4 x5 x6 x7 x8 x9
    obtain⟨y0,y1,y2,y3,y4,f0,f1,f2,f3,f4⟩:=Y.out
    obtain⟨x0,x1,x2,x3,x4,x5,x6,x7,x8,x9,-,-,-,-,-,-,-,-,-,-⟩:=X.out
    obtain⟨n0,n1,n2,n3,n4,n5,n6,n7,n8,n9,m0,m1,m2,m3,m4,m5,m6,m7,m8,m9⟩:=Z.out
    have BV:=zH B.out
    go_wp2_with fail
    refine bodyPost_ret (v:= .tuple #[.agg #[zI zL xo,zI zL xa,.string xs,zI zL xn,zI zL xd,.bool xf,zI zL xm,zI zL xr,zI zL xy,.slice xq xk xc],zI zL 0,zI zL 0]) zbk rfl ⟨⟨xo,xa,xs,xn,xd,xf,xm,xr,xy,xq,xk,xc⟩,rfl,?_,zae⟩
    have h3:ah v6 (w.heap.size+1) (ag ts En) u ⟨xo,xa,xs,xn,xd,xf,xm,xr,xy,xq,xk,xc⟩:=ah.keep (Kfr.refl _ _) zac _ _ Nx.out
    refine ah.keep (lo:=w.heap.size+1) ?_ zac _ _ h3
    repeat' (first|(with_reducible exact Kfr.refl _ _)|(with_reducible refine Kfr.set ?_ zac _ _ _))
  ·rw[if_pos hr]
   simp only[bad]
   obtain⟨k1,hk1⟩:∃k,k=ts.length-r.length:=⟨_,rfl⟩
   rw[show r.length=n0-k1 from zac]
   rw[<-hk1] at KX
   have hkn:(k1:Int)<(n0:Int):=zac
   have hkl:k1<=n0:=zac
   clear hx hpre hrl hr hk1
   have Z:=zH (B10.new w (zI zL 0) (zI zL 0) (.string ⟨#[]⟩) (zI zL 0) (zI zL 0) (.bool false) (zI zL 0) (zI zL 0) (zI zL 0) (.slice none 0 0) 36)
   have B:=zH ((Below.refl w.heap.size w).alloc (Nat.le_refl _) (.cells #[zI zL 0,zI zL 0,.string ⟨#[]⟩,zI zL 0,zI zL 0,.bool false,zI zL 0,zI zL 0,zI zL 0,.slice none 0 0] 36))
   go_enter Tryz.func8,Tryz.ntmps8
   go_wp2_with fail
   generalize w.alloc (.cells #[zI zL 0,zI zL 0,.string ⟨#[]⟩,zI zL 0,zI zL 0,.bool false,zI zL 0,zI zL 0,zI zL 0,.slice none 0 0] 36)=W1 at *
   refine(KL.out _).mono ?_
   rintro _ v1 ⟨q,b,cap,n,rfl,hS,-,hb⟩
   replace Z:=zH (Z.out.bel hb)
   replace B:=zH (B.out.trans (hb.mono B.out.size))
   clear hb KL
   change SlT _ _ _ _ _ ts at hS
   have hl:=hS.ln
   have hmx:=hS.max
   obtain rfl:n=n0:=zac
   clear hl hn0
   have HS:=zH hS
   clear hS
   simp only[Res.e,Res.a]
   rw[show((0:Nat):Int)=0 from rfl]
   have hlo:=World.block_lt_of_cell? _ _ Z.out.c0
   simp only at hlo
   go_wp2_with fail
   rw[<-HEn.out]
   refine(KX.out _ _ _ _ _ HS.out).mono ?_
   rintro _ v3 ⟨⟨xo,xa,xs,xn,xd,xf,xm,xr,xy,xq,xk,xc⟩,rfl,hn,hb⟩
   have hvx:=hb.size
   replace Z:=zH (Z.out.bel hb)
   replace B:=zH (B.out.trans (hb.mono B.out.size))
   have HS2:=zH (HS.out.bel hb)
   have Nx:=zH hn
   clear hb hn
   go_wp2_with fail
   have hb1:=(Below.refl v3.heap.size v3).alloc (Nat.le_refl _) (.cells #[zI zL xo,zI zL xa,.string xs,zI zL xn,zI zL xd,.bool xf,zI zL xm,zI zL xr,zI zL xy,.slice xq xk xc] 36)
   have hb2:=(Below.refl (v3.alloc (.cells #[zI zL xo,zI zL xa,.string xs,zI zL xn,zI zL xd,.bool xf,zI zL xm,zI zL xr,zI zL xy,.slice xq xk xc] 36)).heap.size (v3.alloc (.cells #[zI zL xo,zI zL xa,.string xs,zI zL xn,zI zL xd,.bool xf,zI zL xm,zI zL xr,zI zL xy,.slice xq xk xc] 36))).alloc (Nat.le_refl _) (.cells #[.slice q n cap,zI zL (k1:Nat),zI zL En,zI zL 0,zI zL 0] 62)
   have X:=zH ((B10.new v3 (zI zL xo) (zI zL xa) (.string xs) (zI zL xn) (zI zL xd) (.bool xf) (zI zL xm) (zI zL xr) (zI zL xy) (.slice xq xk xc) 36).bel hb2)
   have Y:=zH (B5.new (v3.alloc (.cells #[zI zL xo,zI zL xa,.string xs,zI zL xn,zI zL xd,.bool xf,zI zL xm,zI zL xr,zI zL xy,.slice xq xk xc] 36)) (.slice q n cap) (zI zL (k1:Nat)) (zI zL En) (zI zL 0) (zI zL 0) 62)
   rw[show(v3.alloc (.cells #[zI zL xo,zI zL xa,.string xs,zI zL xn,zI zL xd,.bool xf,zI zL xm,zI zL xr,zI zL xy,.slice xq xk xc] 36)).heap.size=v3.heap.size+1 by simp] at Y
   replace Z:=zH ((Z.out.bel hb1).bel hb2)
   replace B:=zH ((B.out.trans (hb1.mono B.out.size)).trans (hb2.mono zcr))
   replace Nx:=zH (fun u hu=>ah.bel hb2 _ _ (ah.bel hb1 _ _ (Nx.out u hu)))
   replace HS:=zH ((HS2.out.bel hb1).bel hb2)
   clear hb1 hb2 HS2
   generalize ((v3.alloc (.cells #[zI zL xo,zI zL xa,.string xs,zI zL xn,zI zL xd,.bool xf,zI zL xm,zI zL xr,zI zL xy,.slice xq xk xc] 36)).alloc (.cells #[.slice q n cap,zI zL (k1:Nat),zI zL En,zI zL 0,zI zL 0] 62))=V at *
   have hb0:v3.heap.size+1≠v3.heap.size:=zac
   have hw1:w.heap.size<v3.heap.size:=zac
   have hw2:w.heap.size<v3.heap.size+1:=zac
   generalize v3.heap.size+1=by0 at *
   generalize v3.heap.size=bx0 at *
   obtain⟨y0,y1,y2,y3,y4,f0,f1,f2,f3,f4⟩:=Y.out
   obtain⟨x0,x1,x2,x3,x4,x5,x6,x7,x8,x9,-,-,-,-,-,-,-,-,-,-⟩:=X.out
   have KO2:=zH (fun w hS=>aj ts q b 0 cap n k1 En 0 0 w hS hkl)
   have KF:Hid (∀w,Calls Tryz.prog 27 #[.agg #[.slice q n cap,zI zL (k1:Nat),zI zL En,zI zL 0,zI zL 0],zI zL 10,zI zL (ag ts En (n-k1))] w fun e w'=>e = .returned (.agg #[.slice q n cap,zI zL (k1:Nat),zI zL En,zI zL 10,zI zL (ag ts En (n-k1))])/\RowKit.Below w.heap.size w w'):=fun w=>by
    have:=bA q n cap k1 En 0 0 10 (ag ts En (n-k1)) w
    rw[if_pos rfl,if_pos rfl] at this
    exact this
   have hb:=(Below.refl V.heap.size V).drew
   have hS:True:=trivial
   refine wp_region_held (S:=fun _:World=>True) mixed ?_
   change wpAnyH _ _ _ _ _ _ _ _ V.drew
   replace Z:=zH (Z.out.bel hb)
   replace B:=zH (B.out.trans (hb.mono B.out.size))
   replace X:=zH (X.out.bel hb)
   replace Y:=zH (Y.out.bel hb)
   replace HS:=zH (HS.out.bel hb)
   clear hb y0 y1 y2 y3 y4 f0 f1 f2 f3 f4 x0 x1 x2 x3 x4 x5 x6 x7 x8 x9
   generalize V.drew=U1 at *
   obtain⟨y0,y1,y2,y3,y4,f0,f1,f2,f3,f4⟩:=Y.out
   refine wpAnyH_ready (rs:=[0,1]) zab (by simp) (st0 (fun K hK=>?_) (st1 (fun K hK=>?_) AllReadyH.nil))
   ·go_simp
    refine hK.out _ _ ?_ (fun hHeld=>?_)
    ·exact hS
    clear hK K
    try simp only[Act.put,zA,zB,zC]
    refine wpAnyH_ready (rs:=[1]) zab (by simp) (st1 (fun K hK=>?_) AllReadyH.nil)
    exact Es
   ·go_simp
    refine hK.out _ _ ?_ (fun hHeld=>?_)
    ·exact hS
    clear hK K
    try simp only[Act.put,zA,zB,zC]
    refine wpAnyH_ready (rs:=[0,2]) zab (by simp) (st0 (fun K hK=>?_) (st2 (fun K hK=>?_) AllReadyH.nil))
    ·exact Es
    ·go_simp
     refine(KO2.out _ HS.out).mono ?_
     rintro _ v7 ⟨rfl,hb⟩
     go_wp2_with fail
     replace Z:=zH (Z.out.bel hb)
     replace B:=zH (B.out.trans (hb.mono B.out.size))
     replace X:=zH (X.out.bel hb)
     replace Y:=zH (Y.out.bel hb)
     replace HS:=zH (HS.out.bel hb)
     clear hb y0 y1 y2 y3 y4 f0 f1 f2 f3 f4
     obtain⟨y0,y1,y2,y3,y4,f0,f1,f2,f3,f4⟩:=Y.out
     refine hK.out _ _ ?_ (fun hHeld=>?_)
     ·exact hS
     clear hK K
     try simp only[Act.put,zA,zB,zC]
     refine wpAnyH_ready (rs:=[0]) zab (by simp) (st0 (fun K hK=>?_) AllReadyH.nil)
     go_simp
     exact zz2
end Go.Proofs.YtnjfolljbfkojaaGreatDoor
