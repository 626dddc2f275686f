import Derived.Test.YtnjfolljbfkojaaGreatDoorMBM
import Derived.Test.YtnjfolljbfkojaaGreatDoorMBP
set_option maxRecDepth 100000
set_option maxHeartbeats 20000000
namespace Go.Proofs.YtnjfolljbfkojaaGreatDoor
open Go.Value renaming int→zI
open Go.IntKind renaming i64→zL
open Go.Lib renaming hid→zH
open Go.RowKit Lx Pa
def dN (c:By):Nat:=if c.es.isEmpty then c.ds.length else 0
def rN (c:By):Nat:=if c.es.isEmpty then c.rs.length else 0
structure PSt (w:World) (ofs:Nat->Int) (c:By) (qd qr qg:Option Addr) (ns:List (NV×NV)):Prop where
 dr:c.es=[]->0<c.ds.length->∃g,qd=some ⟨g,0,none⟩/\bI w g (c.ds.flatMap (dV ofs))
 rr:c.es=[]->0<c.rs.length->∃g,qr=some ⟨g,0,none⟩/\bI w g (rFlat ofs c.rs ns)
 nl:c.es=[]->ns.length=c.rs.length
 nd:c.es=[]->∀(i:Nat) (h:i<c.rs.length) (h':i<ns.length),NodeA w (fun _=>True) ofs c.rs[i].whn ns[i].1/\NodeA w (fun _=>True) ofs c.rs[i].give ns[i].2
 gr:0<c.es.length->∃g,qg=some ⟨g,0,none⟩/\bI w g (c.es.flatMap (gV ofs))
theorem bI.bel' {w w1:World}{b:Nat}{l:List Value}(h:bI w b l)(hB:RowKit.Below w.heap.size w w1):bI w1 b l:=fun j v hv=>by
 have:=h j v hv
 exact(hB.cell (World.block_lt_of_cell? _ _ this)).trans this
theorem PSt.bel {w w1:World}{ofs:Nat->Int}{c:By}{qd qr qg:Option Addr}{ns:List (NV×NV)}(h:PSt w ofs c qd qr qg ns)(hB:RowKit.Below w.heap.size w w1):PSt w1 ofs c qd qr qg ns :=
 ⟨fun a b=>by obtain⟨g,h1,h2⟩:=h.dr a b;exact⟨g,h1,h2.bel' hB⟩,fun a b=>by obtain⟨g,h1,h2⟩:=h.rr a b;exact⟨g,h1,h2.bel' hB⟩,h.nl,
  fun a i h1 h2=>⟨NodeA.bel hB _ _ (h.nd a i h1 h2).1,NodeA.bel hB _ _ (h.nd a i h1 h2).2⟩,fun a=>by obtain⟨g,h1,h2⟩:=h.gr a;exact⟨g,h1,h2.bel' hB⟩⟩
theorem parS {s:ByteArray}{l:List UInt8}{c:By}{d r n:Nat}(w:World)(hs:s.data.toList=l)(hb:byR l=c)(hd:dN c=d)(hr:rN c=r)(hn:c.es.length=n)(hz:s.size<=281474976710656) :
  Calls Tryz.prog 5 #[.string s] w fun e w'=>∃qd cd qr cr qg cg ns,e = .returned (.tuple #[.agg #[.slice qd d cd,.slice qr r cr],.slice qg n cg])/\PSt w' (bY l) c qd qr qg ns/\RowKit.Below w.heap.size w w':=by
 refine(EO w hs hb hz).mono ?_
 rintro e w' ⟨vd,vr,vg,rfl,hV,hB⟩
 exact zz41
theorem Fb {c:By}(h:c.es=[]):dN c=c.ds.length/\rN c=c.rs.length:=by unfold dN rN;rw[h];exact⟨rfl,rfl⟩
theorem FK {c:By}(h:c.es≠[]):dN c=0/\rN c=0:=by
 have hee:c.es.isEmpty=false:=zbt
 unfold dN rN;rw[hee];exact⟨rfl,rfl⟩
theorem pg {ts r:List Tok}{n:Tree}(h:af M0 ts = .ok n r):n.siz<=200:=by
 unfold af at h
 obtain⟨a,r1,-,h2⟩:=ai h
 exact Ev
theorem vJ {w:List UInt8}{d n:Tree}{ts r:List Tok}(hd:d.siz<=200)(h:aI w (af M0) d ts = .ok n r):n.siz<=200:=by
 unfold aI at h
 split at h
 ·exact pg h
 ·simp only[Out.ok.injEq] at h
  rw[<-h.1];exact hd
theorem uG {ts r:List Tok}{R:Rule}(h:mg M0 ts = .ok R r):R.whn.siz<=200/\R.give.siz<=200:=by
 unfold mg at h
 split at h
 ·cases h
 ·obtain⟨_,_,-,h⟩:=ai h
  obtain⟨_,_,-,h⟩:=ai h
  obtain⟨_,_,-,h⟩:=ai h
  obtain⟨_,_,-,h⟩:=ai h
  obtain⟨_,_,-,h⟩:=ai h
  obtain⟨_,_,-,h⟩:=ai h
  obtain⟨_,_,-,h⟩:=ai h
  obtain⟨_,_,-,h⟩:=ai h
  obtain⟨_,_,h1,h⟩:=ai h
  obtain⟨_,_,h2,h⟩:=ai h
  simp only[Out.ok.injEq] at h
  rw[<-h.1]
  exact⟨vJ (by simp[aN,Tree.siz,dO]) h1,vJ (by simp[aK,Tree.siz,dO]) h2⟩
theorem zl {ts r:List Tok}{R:Rule}(h:item M0 ts = .ok (.rule R) r):R.whn.siz<=200/\R.give.siz<=200:=by
 unfold item at h
 obtain⟨a,r1,h1,h⟩:=ai h
 obtain⟨_,_,-,h⟩:=ai h
 simp only[Out.ok.injEq] at h
 obtain⟨rfl,-⟩:=h
 unfold jH at h1
 split at h1
 ·obtain⟨_,_,-,h1⟩:=ai h1
  cases h1
 ·obtain⟨b,_,h2,h1⟩:=ai h1
  simp only[Out.ok.injEq,Item.rule.injEq] at h1
  obtain⟨rfl,-⟩:=h1
  exact uG h2
theorem Aq (ts:List Tok)(c:By):(∀R∈c.rs,R.whn.siz<=200/\R.give.siz<=200)->∀R∈(gof M0 ts c).rs,R.whn.siz<=200/\R.give.siz<=200:=by
 refine mG (M:=M0) (P:=fun ts c c'=>(∀R∈c.rs,R.whn.siz<=200/\R.give.siz<=200)->∀R∈c'.rs,R.whn.siz<=200/\R.give.siz<=200) ?_ ?_ ?_ ts.length ts c (Nat.le_refl _)
 ·intro ts c _ h;exact h
 ·intro ts r c d _ hi _ ih h
  refine ih fun R hR=>?_
  cases d with
  | fact d =>
   simp only[By.add] at hR
   split at hR<;>exact h R hR
  | rule d =>
   simp only[By.add] at hR
   split at hR
   ·exact h R hR
   ·rw[List.mem_append,List.mem_singleton] at hR
    rcases hR with hR|rfl
    ·exact h R hR
    ·exact zl hi
 ·intro ts c e k m _ _ _ ih h
  exact ih h
theorem CE (l:List UInt8):∀R∈(byR l).rs,R.whn.siz<=200/\R.give.siz<=200:=by
 cases hx:lex Vh l with
 | er E a=>rw[FN hx];intro R hR;cases hR
 | ok ts=>rw[(C8 hx).1];exact Aq ts ⟨[],[],[]⟩ (fun R hR=>by cases hR)
theorem xu (l:List UInt8):xN l<=2000:=by
 unfold xN
 cases hx:lex Vh l with
 | er E a=>show(-1:Int)<=2000;omega
 | ok ts =>
  have h1:=ib hx
  have h2:=List.countP_le_length (p:=isT sSc) (l:=ts)
  unfold j3
  show((ts.countP (isT sSc):Nat):Int)<=2000
  omega
theorem DF {l:List UInt8}(h:(byR l).es=[]):(byR l).ds.length<=2000/\(byR l).rs.length<=2000:=by
 obtain⟨-,-,-,-,h1⟩:=FC h
 have h2:=xu l
 omega
def mM (f:Nat->Int)(ds:List Decl):List (List Value):=ds.map (dV f)
def gI (f:Nat->Int)(rs:List Rule)(ns:List (NV×NV)):List (List Value):=List.zipWith (fun r x=>rV f r x.1 x.2) rs ns
theorem iR (f:Nat->Int):∀(rs:List Rule) (ns:List (NV×NV)),rFlat f rs ns=(gI f rs ns).flatten
 | [],ns=>by cases ns<;>simp[rFlat,gI]
 | r::rs,[]=>by simp[rFlat,gI]
 | r::rs,x::ns=>by
  show rV f r x.1 x.2++rFlat f rs ns=_
  rw[iR f rs ns];simp[gI]
theorem wJ (f:Nat->Int)(ds:List Decl):∀l∈mM f ds,l.length=8:=fun l hl=>by
 obtain⟨d,-,rfl⟩:=List.mem_map.1 hl;rfl
theorem lX (f:Nat->Int):∀(rs:List Rule) (ns:List (NV×NV)),∀l∈gI f rs ns,l.length=28
 | [],ns,l,hl=>by simp[gI] at hl
 | r::rs,[],l,hl=>by simp[gI] at hl
 | r::rs,x::ns,l,hl=>by
  simp only[gI,List.zipWith_cons_cons,List.mem_cons] at hl
  rcases hl with rfl|hl
  ·exact zQ f r x.1 x.2
  ·exact lX f rs ns l hl
mutual
theorem jE (t:Bool)(f:Nat->Int):∀a:Tree,eqT t f f a a=true
 | .mk o p nm n d u ks=>by simp[eqT,qf t f ks]
theorem qf (t:Bool)(f:Nat->Int):∀a:List Tree,eqL t f f a a=true
 | []=>rfl
 | k::ks=>by simp[eqL,jE t f k,qf t f ks]
end
theorem yY (t:Bool)(f:Nat->Int)(r:Pa.Rule):eqR t f f r r:=⟨rfl,rfl,rfl,rfl,rfl,rfl,rfl,fun _=>rfl,jE t f _,jE t f _⟩
theorem yH (d:Pa.Decl)(f:Nat->Int)(w:World):Calls Tryz.prog 12 #[.agg (dV f d).toArray,.agg (dV f d).toArray,.bool true] w fun e w'=>e = .returned (.bool true)/\RowKit.Below w.heap.size w w':=by
 refine(jc true d.name d.name (uF d.u) (uF d.u) (uM d.u) (uA d.u) (uD d.u) (uM d.u) (uA d.u) (uD d.u) d.lo d.hi (f d.pl) d.lo d.hi (f d.pl) w).mono ?_
 rintro e w' ⟨k1,k2⟩
 refine⟨?_,k2⟩
 rw[k1]
 simp
theorem oP {l:List UInt8}{c:By}{f:Nat->Int}{qd qr qg qd' qr' qg':Option Addr}{ns ns':List (NV×NV)}{d r:Nat}(hc:byR l=c)(hd:dN c=d)(hr:rN c=r)(cd cr cd' cr':Nat)(w:World)(h1:PSt w f c qd qr qg ns)(h2:PSt w f c qd' qr' qg' ns') :
  Calls Tryz.prog 9 #[.agg #[.slice qd d cd,.slice qr r cr],.agg #[.slice qd' d cd',.slice qr' r cr'],.bool true] w fun e w'=>e = .returned (.bool true)/\RowKit.Below w.heap.size w w':=by
 have pick:∀{k:Nat} {p:Option Addr} {L:List Value},(0<k->∃g,p=some ⟨g,0,none⟩/\bI w g L)->∃g,0<k->p=some ⟨g,0,none⟩/\bI w g L:=fun {k p L} h=>by
  by_cases h0:0<k
  ·obtain⟨g,hg⟩:=h h0;exact⟨g,fun _=>hg⟩
  ·exact⟨0,fun h=>absurd h h0⟩
 by_cases he:c.es=[]
 ·obtain⟨e1,e2⟩:=Fb he
  rw[hd] at e1
  rw[hr] at e2
  subst e1 e2
  obtain⟨b1,b2⟩:=DF (l:=l) (by rw[hc];exact he)
  rw[hc] at b1 b2
  have bz:=CE l
  rw[hc] at bz
  have n1:=h1.nl he
  have n2:=h2.nl he
  obtain⟨g1,q1⟩:=pick (k:=c.ds.length) (p:=qd) (L:=(mM f c.ds).flatten) (fun h0=>by obtain⟨g,e,hg⟩:=h1.dr he h0;exact⟨g,e,by rw[List.flatMap_def] at hg;exact hg⟩)
  obtain⟨g2,q2⟩:=pick (k:=c.rs.length) (p:=qr) (L:=(gI f c.rs ns).flatten) (fun h0=>by obtain⟨g,e,hg⟩:=h1.rr he h0;exact⟨g,e,by rw[iR] at hg;exact hg⟩)
  obtain⟨g3,q3⟩:=pick (k:=c.ds.length) (p:=qd') (L:=(mM f c.ds).flatten) (fun h0=>by obtain⟨g,e,hg⟩:=h2.dr he h0;exact⟨g,e,by rw[List.flatMap_def] at hg;exact hg⟩)
  obtain⟨g4,q4⟩:=pick (k:=c.rs.length) (p:=qr') (L:=(gI f c.rs ns').flatten) (fun h0=>by obtain⟨g,e,hg⟩:=h2.rr he h0;exact⟨g,e,by rw[iR] at hg;exact hg⟩)
  refine iC true (mM f c.ds) (mM f c.ds) (gI f c.rs ns) (gI f c.rs ns') _ _ (by simp[mM]) (by simp[mM]) (by simp[gI,n1]) (by simp[gI,n2]) (wJ _ _) (wJ _ _) (lX _ _ _) (lX _ _ _) _ _ _ _ g1 g2 g3 g4 _ _ _ _ w q1 q2 q3 q4 ?_ ?_ zac zac
  ·intro i h h' v _
   simp only[mM,List.getElem_map]
   exact yH _ f v
  ·intro i h h' v hv
   have hi:i<c.rs.length:=by simp[gI,n1] at h;omega
   simp only[gI,List.getElem_zipWith]
   have z:=bz _ (List.getElem_mem hi)
   exact jf true f f _ _ (fun _=>True) (fun _=>True) _ _ _ _ v (NodeA.bel hv _ _ (h1.nd he i hi zac).1) (NodeA.bel hv _ _ (h1.nd he i hi zac).2) (NodeA.bel hv _ _ (h2.nd he i hi zac).1) (NodeA.bel hv _ _ (h2.nd he i hi zac).2) zac zac (yY true f _)
 ·obtain⟨e1,e2⟩:=FK he
  rw[hd] at e1
  rw[hr] at e2
  subst e1 e2
  exact iC true [] [] [] [] 0 0 rfl rfl rfl rfl (fun _ h=>by cases h) (fun _ h=>by cases h) (fun _ h=>by cases h) (fun _ h=>by cases h) _ _ _ _ 0 0 0 0 _ _ _ _ w (fun h=> zac) (fun h=> zac) (fun h=> zac) (fun h=> zac) (fun i h=>by cases h) (fun i h=>by cases h) zac zac
theorem Fu {s:ByteArray}{l:List UInt8}{c:By}{d r n:Nat}(w:World)(hs:s.data.toList=l)(hb:byR l=c)(hd:dN c=d)(hr:rN c=r)(hn:c.es.length=n)(hz:s.size<=281474976710656) :
  Calls Tryz.prog 6 #[.string s] w fun e w'=>∃qd cd qr cr qg cg ns,e = .returned (.tuple #[.agg #[.slice qd d cd,.slice qr r cr],.slice qg n cg])/\PSt w' (bY l) c qd qr qg ns/\RowKit.Below w.heap.size w w':=by
 subst hs hb
 refine(tF s hz w).mono ?_
 rintro e w' ⟨vd,vr,vg,rfl,hV,hB⟩
 generalize byR s.data.toList=c at *
 exact zz41
def ExE (w:World)(T:Tree)(f:Nat->Int)(E A:Int)(e:Ending)(w':World):Prop:=∃x,e = .returned (.tuple #[nv x,zI zL E,zI zL A])/\NodeA w' (fun _=>True) f T x/\RowKit.Below w.heap.size w w'
theorem uP (w:World):NodeA w (fun _=>True) (fun _=>0) (.mk 0 0 [] 0 0 1 []) ⟨0,0,⟨#[]⟩,0,0,false,0,0,0,none,0,0⟩:=by
 unfold NodeA
 exact Eb
theorem xI (s:ByteArray)(hs:s.size<=281474976710656):∃(T:Tree) (f:Nat->Int) (E A:Int),T.siz<=1000000/\(∀w,Calls Tryz.prog 7 #[.string s] w fun e w'=>ExE w T f E A e w')/\∀w,Calls Tryz.prog 8 #[.string s] w fun e w'=>ExE w T f E A e w':=by
 have zero:∀{E A:Int} {w:World} {e:Ending} {w':World},e = .returned (.tuple #[.agg #[zI zL 0,zI zL 0,.string ⟨#[]⟩,zI zL 0,zI zL 0,.bool false,zI zL 0,zI zL 0,zI zL 0,.slice none 0 0],zI zL E,zI zL A])/\RowKit.Below w.heap.size w w'->ExE w (.mk 0 0 [] 0 0 1 []) (fun _=>0) E A e w':=by
  rintro E A w e w' ⟨rfl,hB⟩
  exact⟨⟨0,0,⟨#[]⟩,0,0,false,0,0,0,none,0,0⟩,rfl,uP w',hB⟩
 cases hx:lex Vh s.data.toList with
 | er E a=>exact⟨_,_,E,a,by simp[Tree.siz,dO],fun w=>(nK s hs E a a rfl hx w).mono fun _ _ h=>zero h,fun w=>(sQ s hs E a hx w).mono fun _ _ h=>zero h⟩
 | ok ts =>
  cases hn:bJ M0 ts with
  | er E q m=>exact⟨_,_,E,ag ts s.size q,by simp[Tree.siz,dO],fun w=>(nP s hs ts hx E q m _ rfl hn w).mono fun _ _ h=>zero h,fun w=>(nC s hs ts hx w).mono fun _ _ h=>by rw[hn] at h;exact zero h⟩
  | ok n r =>
   have hz:n.siz<=1000000:=by
    unfold bJ at hn
    obtain⟨a,r1,-,h2⟩:=ai hn
    split at h2
    ·simp[bad] at h2
    ·exact Ev
   refine⟨n,ag ts s.size,0,0,hz,fun w=>(qW s hs ts hx n r hn w).mono ?_,fun w=>(nC s hs ts hx w).mono ?_⟩
   ·rintro e w' ⟨x,rfl,h1,h2⟩
    exact⟨x,rfl,NodeA.keep (Nat.le_refl _) (fun _ _ _=>rfl) (fun _ _ _=>trivial) _ _ h1,h2⟩
   ·intro e w' h
    rw[hn] at h
    obtain⟨x,rfl,h1,h2⟩:=h
    exact⟨x,rfl,NodeA.keep (Nat.le_refl _) (fun _ _ _=>rfl) (fun _ _ _=>trivial) _ _ h1,h2⟩
theorem rF {w:World}{ofs:Nat->Int}{c:By}{n:Nat}{qd qr qg qd' qr' qg':Option Addr}{ns ns':List (NV×NV)}(hn:c.es.length=n)(h20:n<=1000000)(h1:PSt w ofs c qd qr qg ns)(h2:PSt w ofs c qd' qr' qg' ns')(cp cq:Nat) :
  Calls Tryz.prog 10 #[.slice qg n cp,.slice qg' n cq] w fun e w'=>e = .returned (.bool true)/\RowKit.Below w.heap.size w w':=by
 by_cases h0:0<n
 ·obtain⟨g,hg,r1⟩:=h1.gr zac
  obtain⟨g',hg',r2⟩:=h2.gr zac
  have hv:∀j,j<n*2->∃z:Int,(c.es.flatMap (gV ofs))[j]? = some (zI zL z):=fun j hj=>by
   have hl:(c.es.flatMap (gV ofs)).length=c.es.length*2:=Ef ofs c.es
   have hjl:j<(c.es.flatMap (gV ofs)).length:=zac
   have hm:=List.getElem_mem hjl
   obtain⟨e,-,he⟩:=List.mem_flatMap.1 hm
   rw[List.getElem?_eq_getElem hjl]
   simp only[gV,List.mem_cons,List.not_mem_nil,or_false] at he
   rcases he with he|he
   ·exact⟨_,by rw[he]⟩
   ·exact⟨_,by rw[he]⟩
  refine dF n (fun j=>if h:j<n*2 then (hv j h).choose else 0) g g' cp cq qg qg' w (fun _=>hg) (fun _=>hg') (fun j hj=>?_) (fun j hj=>?_) h20
  ·rw[dif_pos hj];exact r1 j _ (hv j hj).choose_spec
  ·rw[dif_pos hj];exact r2 j _ (hv j hj).choose_spec
 ·obtain rfl:n=0:=by omega
  exact dF 0 (fun _=>0) 0 0 cp cq qg qg' w (fun h=>absurd h h0) (fun h=>absurd h h0) (fun j h=> zac) (fun j h=> zac) zac
theorem uh (s:ByteArray)(w:World)(hs:s.size<=281474976710656):Calls Tryz.prog 3 #[.string s] w fun e w'=>e = .returned (.bool true)/\RowKit.Below w.heap.size w w':=by
 obtain⟨l,hl⟩:∃l,s.data.toList=l:=⟨_,rfl⟩
 by_cases h4:4000<s.size
 ·have d1:decide ((4000:Int)<(s.size:Int))=true:=decide_eq_true zac
  clear hl
  go_enter Tryz.func3,Tryz.ntmps3
  go_wp2_with fail
  refine(qL _).mono ?_
  rintro _ w1 ⟨rfl,hb⟩
  have B1:=zH hb
  clear hb
  go_wp2_with fail
  go_ret
  exact⟨rfl,B1.out⟩
 have d1:decide ((4000:Int)<(s.size:Int))=false:=decide_eq_false zac
 have d2:¬(4000:Int)<(s.size:Int):=zac
 obtain⟨c,hc⟩:∃c,byR l=c:=⟨_,rfl⟩
 obtain⟨d,hd⟩:∃x,dN c=x:=⟨_,rfl⟩
 obtain⟨r,hr⟩:∃x,rN c=x:=⟨_,rfl⟩
 obtain⟨n,hn⟩:∃x,c.es.length=x:=⟨_,rfl⟩
 have hn20:n<=20:=by rw[<-hn,<-hc];exact(AZ l).1
 obtain⟨T,f,E,A,hT,hXP,hXR⟩:=xI s hs
 have XP:=zH hXP
 have XR:=zH hXR
 have KP:=zH (fun w=>parS (s:=s) w hl hc hd hr hn hs)
 have KR:=zH (fun w=>Fu (s:=s) w hl hc hd hr hn hs)
 have HT:=zH hT
 have KC:=zH (fun qd qr qg qd' qr' qg' ns ns' cd cr cd' cr' w h1 h2=>oP (f:=bY l) (qd:=qd) (qr:=qr) (qg:=qg) (qd':=qd') (qr':=qr') (qg':=qg') (ns:=ns) (ns':=ns') hc hd hr cd cr cd' cr' w h1 h2)
 have HN:=zH hn
 generalize bY l=F at *
 clear hl hc hd hr hn hXP hXR hT h4
 go_enter Tryz.func3,Tryz.ntmps3
 go_wp2_with fail
 refine(qL _).mono ?_
 rintro _ w1 ⟨rfl,hb⟩
 have B:=zH hb
 clear hb
 go_wp2_with fail
 refine(KP.out _).mono ?_
 rintro _ v1 ⟨qd,cd,qr,cr,qg,cg,ns,rfl,hP,hb⟩
 replace B:=zH (B.out.trans (hb.mono B.out.size))
 have bx:=(Below.refl v1.heap.size v1).alloc (Nat.le_refl _) (.cells #[.slice qd d cd,.slice qr r cr] 26)
 have P:=zH (hP.bel bx)
 have C1:=zH (At2.new v1 (.slice qd d cd) (.slice qr r cr) 26)
 replace B:=zH (B.out.trans (bx.mono B.out.size))
 clear hb hP bx KP
 go_wp2_with fail
 generalize v1.alloc (.cells #[.slice qd d cd,.slice qr r cr] 26)=V1 at *
 refine(KR.out _).mono ?_
 rintro _ v2 ⟨qd',cd',qr',cr',qg',cg',ns',rfl,hP,hb⟩
 replace B:=zH (B.out.trans (hb.mono B.out.size))
 have bx:=(Below.refl v2.heap.size v2).alloc (Nat.le_refl _) (.cells #[.slice qd' d cd',.slice qr' r cr'] 26)
 replace P:=zH ((P.out.bel hb).bel bx)
 replace C1:=zH ((C1.out.bel hb).bel bx)
 have Q:=zH (hP.bel bx)
 have C2:=zH (At2.new v2 (.slice qd' d cd') (.slice qr' r cr') 26)
 replace B:=zH (B.out.trans (bx.mono B.out.size))
 clear hb hP bx KR
 go_wp2_with fail
 generalize v2.alloc (.cells #[.slice qd' d cd',.slice qr' r cr'] 26)=V2 at *
 refine(XP.out _).mono ?_
 rintro _ v3 ⟨⟨xo,xa,xs,xn,xd,xf,xm,xr,xy,xq,xk,xc⟩,rfl,hX,hb⟩
 replace B:=zH (B.out.trans (hb.mono B.out.size))
 have bx:=(Below.refl v3.heap.size v3).alloc (Nat.le_refl _) (.cells #[zI zL xo,zI zL xa,.string xs,zI zL xn,zI zL xd,.bool xf,zI zL xm,zI zL xr,zI zL xy,.slice xq xk xc] 36)
 replace P:=zH ((P.out.bel hb).bel bx)
 replace C1:=zH ((C1.out.bel hb).bel bx)
 replace Q:=zH ((Q.out.bel hb).bel bx)
 replace C2:=zH ((C2.out.bel hb).bel bx)
 have N1:=zH (NodeA.bel bx _ _ hX)
 have X1:=zH (B10.new v3 (zI zL xo) (zI zL xa) (.string xs) (zI zL xn) (zI zL xd) (.bool xf) (zI zL xm) (zI zL xr) (zI zL xy) (.slice xq xk xc) 36)
 replace B:=zH (B.out.trans (bx.mono B.out.size))
 clear hb hX bx XP
 unfold nv
 go_wp2_with fail
 generalize v3.alloc (.cells #[zI zL xo,zI zL xa,.string xs,zI zL xn,zI zL xd,.bool xf,zI zL xm,zI zL xr,zI zL xy,.slice xq xk xc] 36)=V3 at *
 refine(XR.out _).mono ?_
 rintro _ v4 ⟨⟨yo,ya,ys,yn,yd,yf,ym,yr,yy,yq,yk,yc⟩,rfl,hX,hb⟩
 replace B:=zH (B.out.trans (hb.mono B.out.size))
 have C1v:=C1.out.bel hb
 have C2v:=C2.out.bel hb
 have X1v:=X1.out.bel hb
 obtain⟨a0,a1,-,-⟩:=C1v
 obtain⟨b0,b1,-,-⟩:=C2v
 have l1:=World.block_lt_of_cell? _ _ a0
 have l2:=World.block_lt_of_cell? _ _ b0
 have l3:=World.block_lt_of_cell? _ _ X1v.c0
 simp only at l1 l2 l3
 have bx:=(Below.refl v4.heap.size v4).alloc (Nat.le_refl _) (.cells #[zI zL yo,zI zL ya,.string ys,zI zL yn,zI zL yd,.bool yf,zI zL ym,zI zL yr,zI zL yy,.slice yq yk yc] 36)
 replace P:=zH ((P.out.bel hb).bel bx)
 replace Q:=zH ((Q.out.bel hb).bel bx)
 replace N1:=zH (NodeA.bel bx _ _ (NodeA.bel hb _ _ N1.out))
 replace X1:=zH (X1v.bel bx)
 have N2:=zH (NodeA.bel bx _ _ hX)
 have X2:=zH (B10.new v4 (zI zL yo) (zI zL ya) (.string ys) (zI zL yn) (zI zL yd) (.bool yf) (zI zL ym) (zI zL yr) (zI zL yy) (.slice yq yk yc) 36)
 replace B:=zH (B.out.trans (bx.mono B.out.size))
 clear hb hX bx XR C1 C2 X1v
 unfold nv
 go_wp2_with fail
 generalize v4.alloc (.cells #[zI zL yo,zI zL ya,.string ys,zI zL yn,zI zL yd,.bool yf,zI zL ym,zI zL yr,zI zL yy,.slice yq yk yc] 36)=V4 at *
 refine(KC.out _ _ _ _ _ _ _ _ _ _ _ _ _ P.out Q.out).mono ?_
 rintro _ v5 ⟨rfl,hb⟩
 replace B:=zH (B.out.trans (hb.mono B.out.size))
 replace P:=zH (P.out.bel hb)
 replace Q:=zH (Q.out.bel hb)
 replace N1:=zH (NodeA.bel hb _ _ N1.out)
 replace N2:=zH (NodeA.bel hb _ _ N2.out)
 replace X1:=zH (X1.out.bel hb)
 replace X2:=zH (X2.out.bel hb)
 clear hb KC a0 a1 b0 b1 l1 l2 l3
 go_wp2_with fail
 refine(rF HN.out zac P.out Q.out _ _).mono ?_
 rintro _ v6 ⟨rfl,hb⟩
 replace B:=zH (B.out.trans (hb.mono B.out.size))
 replace N1:=zH (NodeA.bel hb _ _ N1.out)
 replace N2:=zH (NodeA.bel hb _ _ N2.out)
 replace X1:=zH (X1.out.bel hb)
 replace X2:=zH (X2.out.bel hb)
 have KS:=zH (jm true f f _ T T (Nat.le_refl _) HT.out (fun _=>True) (fun _=>True) ⟨xo,xa,xs,xn,xd,xf,xm,xr,xy,xq,xk,xc⟩ ⟨yo,ya,ys,yn,yd,yf,ym,yr,yy,yq,yk,yc⟩ v6 N1.out N2.out)
 rw[jE] at KS
 clear hb P Q
 obtain⟨c0,c1,c2,c3,c4,c5,c6,c7,c8,c9,-,-,-,-,-,-,-,-,-,-⟩:=X1.out
 obtain⟨e0,e1,e2,e3,e4,e5,e6,e7,e8,e9,-,-,-,-,-,-,-,-,-,-⟩:=X2.out
 unfold nv at KS
 go_wp2_with fail
 refine KS.out.mono ?_
 rintro _ v7 ⟨rfl,hb⟩
 replace B:=zH (B.out.trans (hb.mono B.out.size))
 clear hb KS c0 c1 c2 c3 c4 c5 c6 c7 c8 c9 e0 e1 e2 e3 e4 e5 e6 e7 e8 e9
 go_wp2_with fail
 go_ret
 exact⟨rfl,B.out⟩
end Go.Proofs.YtnjfolljbfkojaaGreatDoor
