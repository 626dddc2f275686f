import Derived.Lib.AtoiErrMem
import Derived.Test.YtnjfolljbfkojaaGreatDoorMAM
import Derived.Test.YtnjfolljbfkojaaGreatDoorMAL
import Derived.Test.YtnjfolljbfkojaaGreatDoorMAK
set_option maxRecDepth 100000
set_option maxHeartbeats 20000000
namespace Go.Proofs.YtnjfolljbfkojaaGreatDoor
open Go.Value renaming int→zI
open Go.IntKind renaming i64→zL
open Go.Lib renaming hid→zH
open Go.RowKit Lx
theorem nO (s:ByteArray)(w:World)(hs:s.size<=281474976710656):Calls Tryz.prog 104 #[.string s] w fun e w'=>e = .returned (.string s)/\RowKit.Below w.heap.size w w':=by
 go_enter Tryz.func104,Tryz.ntmps104
 go_wp2_with fail
 refine(Tryz.stringslite_Clone _ _ hs).mono ?_
 rintro _ w1 ⟨rfl,hb⟩
 go_wp2
 go_ret
 exact⟨rfl,hb⟩
theorem jU:∀l:List UInt8,Lib.indexByte l 46=if behind l=[] then -1 else ((whole l).length:Int)
 | []=>rfl
 | c::l=>by
  unfold Lib.indexByte
  by_cases h:c=46
  ·subst h
   have:behind (46::l)=46::l:=by unfold behind;rw[List.dropWhile_cons];rfl
   have h2:whole (46::l)=[]:=by unfold whole;rw[List.takeWhile_cons];rfl
   rw[this,h2];simp
  ·have hn:decide (c.toNat≠46)=true:=by
    simp only[decide_eq_true_eq];intro e;exact h (UInt8.toNat_inj.1 e)
   have e1:behind (c::l)=behind l:=by unfold behind;rw[List.dropWhile_cons,hn];rfl
   have e2:whole (c::l)=c::whole l:=by unfold whole;rw[List.takeWhile_cons,hn];rfl
   rw[if_neg zbt,e1,e2,jU l]
   by_cases hb:behind l=[]
   ·rw[if_pos hb,if_pos hb];simp
   ·rw[if_neg hb,if_neg hb,if_neg (by simp)];simp
theorem dw (l:List UInt8):whole l++behind l=l:=by unfold whole behind;exact List.takeWhile_append_dropWhile
theorem gN {l:List UInt8}(h:behind l≠[]):behind l=46::(behind l).tail:=by
 unfold behind at h |-
 cases hb:l.dropWhile (fun c=>decide (c.toNat≠46)) with
 | nil=>exact absurd hb h
 | cons c r =>
  have:=List.head_dropWhile_not (fun c:UInt8=>decide (c.toNat≠46)) (l:=l) h
  simp only[hb,List.head_cons,decide_eq_false_iff_not,ne_eq,Decidable.not_not] at this
  have:c=46:=UInt8.toNat_inj.1 this
  rw[this];rfl
theorem pz {l:List UInt8}(h:behind l=[]):whole l=l:=by have:=dw l;rwa [h,List.append_nil] at this
theorem wW (s:ByteArray)(i:Nat)(w:World)(hs:s.size<=9223372036854775806)(h:Lib.indexByte s.data.toList 46=i)(hi:i<s.size) :
  Calls Tryz.prog 115 #[.string s,.string ⟨#[46]⟩] w fun e w' =>
   e = .returned (.tuple #[.string (s.extract 0 i),.string (s.extract (i+1) s.size),.bool true])/\RowKit.Below w.heap.size w w':=by
 have H:=zH h
 clear h
 go_enter Tryz.func115,Tryz.ntmps115
 go_wp2_with fail
 refine(Tryz.stringslite_Index_one _ _ _).mono ?_
 rintro e w' ⟨rfl,rfl⟩
 rw[H.out]
 go_wp2
 go_quiet (fail)
 go_wp2
 go_ret3
 exact⟨rfl,below_drewN (Below.refl _ _) _⟩
theorem vz (s:ByteArray)(w:World)(h:Lib.indexByte s.data.toList 46 = -1) :
  Calls Tryz.prog 115 #[.string s,.string ⟨#[46]⟩] w fun e w' =>
   e = .returned (.tuple #[.string s,.string ⟨#[]⟩,.bool false])/\RowKit.Below w.heap.size w w':=by
 have H:=zH h
 clear h
 go_enter Tryz.func115,Tryz.ntmps115
 go_wp2_with fail
 refine(Tryz.stringslite_Index_one _ _ _).mono ?_
 rintro e w' ⟨rfl,rfl⟩
 rw[H.out]
 go_wp2
 go_ret3
 exact⟨rfl,Below.refl _ _⟩
theorem pV (l:List UInt8)(w:World)(hs:l.length<=281474976710656) :
  Calls Tryz.prog 107 #[.string (bs l),.string ⟨#[46]⟩] w fun e w' =>
   e = .returned (.tuple #[.string (bs (whole l)),.string (bs (behind l).tail),.bool (decide (behind l≠[]))])/\RowKit.Below w.heap.size w w':=by
 have hF:∀w,Calls Tryz.prog 115 #[.string (bs l),.string ⟨#[46]⟩] w fun e w' =>
   e = .returned (.tuple #[.string (bs (whole l)),.string (bs (behind l).tail),.bool (decide (behind l≠[]))])/\RowKit.Below w.heap.size w w':=by
  intro w
  have hI:=jU l
  have hp:=dw l
  by_cases h:behind l=[]
  ·rw[if_pos h] at hI
   have:=vz (bs l) w (by rw[eX];exact hI)
   rw[pz h,h]
   have e:bs ([]:List UInt8).tail=⟨#[]⟩:=rfl
   rw[e]
   simpa using this
  ·rw[if_neg h] at hI
   have hb:=gN h
   have hl:=congrArg List.length hp
   rw[List.length_append,hb,List.length_cons] at hl
   have:=wW (bs l) (whole l).length w (by rw[aP];omega) (by rw[eX];exact hI) (by rw[aP];omega)
   have e1:(bs l).extract 0 (whole l).length=bs (whole l):=by
    rw[jV];congr 1;unfold whole;exact dA l
   have e2:(bs l).extract ((whole l).length+1) (bs l).size=bs (behind l).tail:=by
    rw[Bb];congr 1
    have:l.drop (whole l).length=behind l:=by
     have h3:=congrArg (List.drop (whole l).length) hp
     rw[List.drop_left] at h3
     exact h3.symm
    rw[<-List.drop_drop,this];exact List.drop_one
   rw[e1,e2] at this
   simpa[h] using this
 generalize whole l=A at hF |-
 generalize (behind l).tail=B at hF |-
 generalize decide (behind l≠[])=r at hF |-
 have HF:=zH hF
 clear hF
 go_enter Tryz.func107,Tryz.ntmps107
 go_wp2_with fail
 refine(HF.out _).mono ?_
 rintro e w1 ⟨rfl,hb1⟩
 go_wp2
 go_ret3
 exact⟨rfl,hb1⟩
theorem kS {p:UInt8->Bool}:∀l:List UInt8,(l.takeWhile p).all p=true
 | []=>rfl
 | c::l=>by
  rw[List.takeWhile_cons]
  cases h:p c with
  | false=>rfl
  | true=>simp only[if_true,List.all_cons,h,kS l,Bool.and_self]
theorem qP:∀(l:List UInt8) (a:Nat),oG l=true->Lib.decFrom a l=some (l.foldl (fun a c=>a*10+(c.toNat-48)) a)
 | [],a,_=>rfl
 | c::l,a,h=>by
  unfold oG at h
  rw[List.all_cons,Bool.and_eq_true] at h
  have hd:48<=c.toNat/\c.toNat<=57:=by have:=h.1;unfold dgt at this;simpa using this
  unfold Lib.decFrom Lib.digitVal
  rw[if_pos hd]
  exact qP l _ h.2
theorem xX (l:List UInt8)(hne:l≠[])(h:oG l=true):Lib.atoi l=some (rY l:Int):=by
 cases l with
 | nil=>exact absurd rfl hne
 | cons c r =>
  have hd:48<=c.toNat/\c.toNat<=57:=by
   unfold oG at h
   rw[List.all_cons,Bool.and_eq_true] at h
   have:=h.1;unfold dgt at this;simpa using this
  have n45:¬c=45:=by intro e;subst e;revert hd;decide
  have n43:¬c=43:=by intro e;subst e;revert hd;decide
  simp only[Lib.atoi]
  rw[if_neg (by simpa using n45),if_neg (by simpa using n43)]
  unfold Lib.decNat
  rw[if_neg (by simp),qP _ _ h]
  rfl
theorem pY (l:List UInt8)(w:World)(hl:l.length<=18)(hne:l≠[])(h:oG l=true) :
  Calls Tryz.prog 109 #[.string (bs l)] w fun e w'=>e = .returned (.tuple #[zI zL (rY l:Nat),.nilIface])/\RowKit.Below w.heap.size w w':=by
 refine(Tryz.strconv_Atoi (bs l) (rY l:Nat) (by rw[aP];exact hl) (by rw[eX];exact xX l hne h) w).mono ?_
 rintro e w' ⟨rfl,t,rfl⟩
 exact⟨rfl,Lib.bytesWorld_below _ _ _⟩
theorem bU (l:List UInt8)(k:Nat)(w:World)(hs:l.length<=281474976710656) :
  Calls Tryz.prog 108 #[.string (bs l),zI zL k] w fun e w'=>e = .returned (.bool (gU l k))/\w'=w:=by
 obtain⟨r,hr⟩:∃r,r=gU l k:=⟨_,rfl⟩
 rw[<-hr]
 unfold gU at hr
 have hsz:(bs l).size=l.length:=aP l
 by_cases h0:l=[]
 ·have HR:Hid (r=false):=by show _=_;rw[hr,h0];rfl
  subst h0
  clear hr
  show Calls Tryz.prog 108 #[.string ⟨#[]⟩,zI zL k] w fun e w'=>_
  go_enter Tryz.func108,Tryz.ntmps108
  go_wp2_with fail
  go_ret
  exact⟨aD HR.out.symm,rfl⟩
 ·have f4:((bs l).toList==[])=false:=by rw[aM];simpa using h0
  have f5:(bs l).toList.isEmpty=false:=by rw[aM];simpa using h0
  by_cases h1:l.length<=k
  ·have d1:decide (((bs l).size:Int)<=(k:Int))=true:=by simp[hsz];omega
   have K:=zH (iK 91 dgt rC (bs l) w zac)
   rw[eX] at K
   have HR:Hid (r=(l.takeWhile dgt==l)):=by
    show _=_
    rw[hr,decide_eq_true h0,decide_eq_true h1,Bool.true_and,Bool.true_and,Bool.eq_iff_iff,beq_iff_eq]
    unfold oG
    exact⟨lS,fun h=>by rw[<-h];exact kS l⟩
   have f6:((bs (l.takeWhile dgt)).toList==(bs l).toList)=(l.takeWhile dgt==l):=by rw[aM,aM]
   have d6:¬(bs l).toList=[]:=by rw[aM];exact h0
   have d2:decide ((bs l).size<=k)=true:=decide_eq_true (by rw[hsz];exact h1)
   have d5:(bs l).size<=k:=by rw[hsz];exact h1
   clear hr h0 h1
   rw[<-HR.out] at f6
   have d3:(!(bs l).toList==[])=true:=by rw[f4];rfl
   generalize bs (l.takeWhile dgt)=T at *
   generalize bs l=s at *
   go_enter Tryz.func108,Tryz.ntmps108
   go_wp2_with (refine K.out.mono ?_;rintro _ _ ⟨rfl,rfl⟩)
   go_ret
   exact⟨rfl,rfl⟩
  ·have d1:decide (((bs l).size:Int)<=(k:Int))=false:=by simp[hsz];omega
   have HR:Hid (r=false):=by show _=_;rw[hr,decide_eq_false h1];simp
   have d2:decide ((bs l).size<=k)=false:=decide_eq_false (by rw[hsz];exact h1)
   have d5:¬(bs l).size<=k:=by rw[hsz];exact h1
   clear hr
   generalize bs l=s at *
   go_enter Tryz.func108,Tryz.ntmps108
   go_wp2_with fail
   go_ret
   exact⟨aD HR.out.symm,rfl⟩
end Go.Proofs.YtnjfolljbfkojaaGreatDoor
namespace Go.Proofs.YtnjfolljbfkojaaGreatDoor
open Go.Value renaming int→zI
open Go.IntKind renaming i64→zL
open Go.Lib renaming hid→zH
open Go.RowKit Lx Pa
section
variable (M:Int->Int->Int×Int×Int) (ts:List Tok) (p:Option Addr) (b off cap n En:Nat)
def XpC (σ:Sg):Prop:=∀w:World,SlT w p b off n ts->Calls Tryz.prog 26 #[.agg #[.slice p n cap,zI zL (σ.k:Nat),zI zL En,zI zL σ.E,zI zL σ.O]] w fun e w'=>bO w ts p n cap En ((σ.run ts En (rd M .ex)).k:Nat) (σ.run ts En (rd M .ex)).E (σ.run ts En (rd M .ex)).O (σ.val ts (rd M .ex)) e w'
def RwC (l:Nat)(σ:Sg):Prop:=∀w:World,SlT w p b off n ts->Calls Tryz.prog 51 #[.agg #[.slice p n cap,zI zL (σ.k:Nat),zI zL En,zI zL σ.E,zI zL σ.O],zI zL (l:Nat)] w fun e w'=>bO w ts p n cap En ((σ.run ts En (rd M (.row l))).k:Nat) (σ.run ts En (rd M (.row l))).E (σ.run ts En (rd M (.row l))).O (σ.val ts (rd M (.row l))) e w'
def FcC (σ:Sg):Prop:=∀w:World,SlT w p b off n ts->Calls Tryz.prog 71 #[.agg #[.slice p n cap,zI zL (σ.k:Nat),zI zL En,zI zL σ.E,zI zL σ.O]] w fun e w'=>bO w ts p n cap En ((σ.run ts En (factor M (rd M .ex))).k:Nat) (σ.run ts En (factor M (rd M .ex))).E (σ.run ts En (factor M (rd M .ex))).O (σ.val ts (factor M (rd M .ex))) e w'
end
section
variable {w v V:World} {p:Option Addr} {n cap:Nat} {k En E O:Int}
theorem Kept.set5 {r:Nat}(h:Kept r v V)(y0 y1 y2 y3 y4:Value):Kept r v (((((V.setCell ⟨r,0,none⟩ y0).setCell ⟨r,1,none⟩ y1).setCell ⟨r,2,none⟩ y2).setCell ⟨r,3,none⟩ y3).setCell ⟨r,4,none⟩ y4) :=
 ((((h.setCell 0 none y0).setCell 1 none y1).setCell 2 none y2).setCell 3 none y3).setCell 4 none y4
theorem Fr.put2 (h:Fr w v p n cap k En E O)(k' E' O':Int):Fr w (((((v.setCell ⟨w.heap.size,0,none⟩ (.slice p n cap)).setCell ⟨w.heap.size,1,none⟩ (zI zL k')).setCell ⟨w.heap.size,2,none⟩ (zI zL En)).setCell ⟨w.heap.size,3,none⟩ (zI zL E')).setCell ⟨w.heap.size,4,none⟩ (zI zL O')) p n cap k' En E' O' /\
  Kept w.heap.size v (((((v.setCell ⟨w.heap.size,0,none⟩ (.slice p n cap)).setCell ⟨w.heap.size,1,none⟩ (zI zL k')).setCell ⟨w.heap.size,2,none⟩ (zI zL En)).setCell ⟨w.heap.size,3,none⟩ (zI zL E')).setCell ⟨w.heap.size,4,none⟩ (zI zL O')):=⟨h.put k' E' O',(Kept.refl _ _).set5 _ _ _ _ _⟩
theorem B10.kept {b r:Nat}{x0 x1 x2 x3 x4 x5 x6 x7 x8 x9:Value}(h:B10 v b x0 x1 x2 x3 x4 x5 x6 x7 x8 x9)(hk:Kept r v V)(hr:b≠r):B10 V b x0 x1 x2 x3 x4 x5 x6 x7 x8 x9:=h.call hk hr
theorem Fr.node (h:Fr w v p n cap k En E O)(x0 x1 x2 x3 x4 x5 x6 x7 x8 x9:Value)(T:Nat)(k' E' O':Int) :
  Fr w ((((((v.setCell ⟨w.heap.size,0,none⟩ (.slice p n cap)).setCell ⟨w.heap.size,1,none⟩ (zI zL k')).setCell ⟨w.heap.size,2,none⟩ (zI zL En)).setCell ⟨w.heap.size,3,none⟩ (zI zL E')).setCell ⟨w.heap.size,4,none⟩ (zI zL O')).alloc (.cells #[x0,x1,x2,x3,x4,x5,x6,x7,x8,x9] T)) p n cap k' En E' O'/\Kept w.heap.size v ((((((v.setCell ⟨w.heap.size,0,none⟩ (.slice p n cap)).setCell ⟨w.heap.size,1,none⟩ (zI zL k')).setCell ⟨w.heap.size,2,none⟩ (zI zL En)).setCell ⟨w.heap.size,3,none⟩ (zI zL E')).setCell ⟨w.heap.size,4,none⟩ (zI zL O')).alloc (.cells #[x0,x1,x2,x3,x4,x5,x6,x7,x8,x9] T))/\B10 ((((((v.setCell ⟨w.heap.size,0,none⟩ (.slice p n cap)).setCell ⟨w.heap.size,1,none⟩ (zI zL k')).setCell ⟨w.heap.size,2,none⟩ (zI zL En)).setCell ⟨w.heap.size,3,none⟩ (zI zL E')).setCell ⟨w.heap.size,4,none⟩ (zI zL O')).alloc (.cells #[x0,x1,x2,x3,x4,x5,x6,x7,x8,x9] T)) v.heap.size x0 x1 x2 x3 x4 x5 x6 x7 x8 x9:=by
 have hp:=h.put2 k' E' O'
 have ha:=(Below.refl (((((v.setCell ⟨w.heap.size,0,none⟩ (.slice p n cap)).setCell ⟨w.heap.size,1,none⟩ (zI zL k')).setCell ⟨w.heap.size,2,none⟩ (zI zL En)).setCell ⟨w.heap.size,3,none⟩ (zI zL E')).setCell ⟨w.heap.size,4,none⟩ (zI zL O')).heap.size (((((v.setCell ⟨w.heap.size,0,none⟩ (.slice p n cap)).setCell ⟨w.heap.size,1,none⟩ (zI zL k')).setCell ⟨w.heap.size,2,none⟩ (zI zL En)).setCell ⟨w.heap.size,3,none⟩ (zI zL E')).setCell ⟨w.heap.size,4,none⟩ (zI zL O'))).alloc (Nat.le_refl _) (.cells #[x0,x1,x2,x3,x4,x5,x6,x7,x8,x9] T)
 refine⟨hp.1.bel ha,hp.2.bel ha,?_⟩
 have:=B10.new (((((v.setCell ⟨w.heap.size,0,none⟩ (.slice p n cap)).setCell ⟨w.heap.size,1,none⟩ (zI zL k')).setCell ⟨w.heap.size,2,none⟩ (zI zL En)).setCell ⟨w.heap.size,3,none⟩ (zI zL E')).setCell ⟨w.heap.size,4,none⟩ (zI zL O')) x0 x1 x2 x3 x4 x5 x6 x7 x8 x9 T
 rw[show(((((v.setCell ⟨w.heap.size,0,none⟩ (.slice p n cap)).setCell ⟨w.heap.size,1,none⟩ (zI zL k')).setCell ⟨w.heap.size,2,none⟩ (zI zL En)).setCell ⟨w.heap.size,3,none⟩ (zI zL E')).setCell ⟨w.heap.size,4,none⟩ (zI zL O')).heap.size=v.heap.size by simp[World.setCell]] at this
 exact this
theorem B10.row {b:Nat}{x0 x1 x2 x3 x4 x5 x6 x7 x8 x9:Value}(h:B10 v b x0 x1 x2 x3 x4 x5 x6 x7 x8 x9):∀(j:Nat) (u:Value),[x0,x1,x2,x3,x4,x5,x6,x7,x8,x9][j]? = some u->v.cell? ⟨b,j,none⟩=some u
 | 0,u,e=>by cases e;exact h.c0
 | 1,u,e=>by cases e;exact h.c1
 | 2,u,e=>by cases e;exact h.c2
 | 3,u,e=>by cases e;exact h.c3
 | 4,u,e=>by cases e;exact h.c4
 | 5,u,e=>by cases e;exact h.c5
 | 6,u,e=>by cases e;exact h.c6
 | 7,u,e=>by cases e;exact h.c7
 | 8,u,e=>by cases e;exact h.c8
 | 9,u,e=>by cases e;exact h.c9
 | j+10,u,e=>by simp at e
theorem B5.row {b:Nat}{x0 x1 x2 x3 x4:Value}(h:B5 v b x0 x1 x2 x3 x4):∀(j:Nat) (u:Value),[x0,x1,x2,x3,x4][j]? = some u->v.cell? ⟨b,j,none⟩=some u
 | 0,u,e=>by cases e;exact h.c0
 | 1,u,e=>by cases e;exact h.c1
 | 2,u,e=>by cases e;exact h.c2
 | 3,u,e=>by cases e;exact h.c3
 | 4,u,e=>by cases e;exact h.c4
 | j+5,u,e=>by simp at e
theorem Kept.set10 {r:Nat}(h:Kept r v V)(y0 y1 y2 y3 y4 y5 y6 y7 y8 y9:Value):Kept r v ((((((((((V.setCell ⟨r,0,none⟩ y0).setCell ⟨r,1,none⟩ y1).setCell ⟨r,2,none⟩ y2).setCell ⟨r,3,none⟩ y3).setCell ⟨r,4,none⟩ y4).setCell ⟨r,5,none⟩ y5).setCell ⟨r,6,none⟩ y6).setCell ⟨r,7,none⟩ y7).setCell ⟨r,8,none⟩ y8).setCell ⟨r,9,none⟩ y9) :=
 (((((h.set5 y0 y1 y2 y3 y4).setCell 5 none y5).setCell 6 none y6).setCell 7 none y7).setCell 8 none y8).setCell 9 none y9
theorem B5.kept {b r:Nat}{x0 x1 x2 x3 x4:Value}(h:B5 v b x0 x1 x2 x3 x4)(hk:Kept r v V)(hr:b≠r):B5 V b x0 x1 x2 x3 x4:=h.call hk hr
theorem Fr.kept {r:Nat}(h:Fr w v p n cap k En E O)(hk:Kept r v V)(hr:w.heap.size+2<r):Fr w V p n cap k En E O :=
 ⟨h.A.kept hk zac,h.N.kept hk zac,h.R.kept hk zac,h.B.trans (hk.below zac h.B.size)⟩
theorem B10.unit {b:Nat}{x0 x1 x2 x3 x4 x5 x6 x7 x8 x9:Value}(h:B10 v b x0 x1 x2 x3 x4 x5 x6 x7 x8 x9)(y5 y6 y7 y8:Value) :
  B10 ((((v.setCell ⟨b,5,none⟩ y5).setCell ⟨b,6,none⟩ y6).setCell ⟨b,7,none⟩ y7).setCell ⟨b,8,none⟩ y8) b x0 x1 x2 x3 x4 y5 y6 y7 y8 x9:=by
 obtain⟨c0,c1,c2,c3,c4,c5,c6,c7,c8,c9,f0,f1,f2,f3,f4,f5,f6,f7,f8,f9⟩:=h
 exact Ex
theorem B10.num {b:Nat}{x0 x1 x2 x3 x4 x5 x6 x7 x8 x9:Value}(h:B10 v b x0 x1 x2 x3 x4 x5 x6 x7 x8 x9)(y3 y4:Value) :
  B10 ((v.setCell ⟨b,3,none⟩ y3).setCell ⟨b,4,none⟩ y4) b x0 x1 x2 y3 y4 x5 x6 x7 x8 x9:=by
 obtain⟨c0,c1,c2,c3,c4,c5,c6,c7,c8,c9,f0,f1,f2,f3,f4,f5,f6,f7,f8,f9⟩:=h
 exact Ex
theorem ah.kept {lo r:Nat}{ofs:Nat->Int}(hk:Kept r v V)(hr:r<lo)(t:Tree)(x:NV)(h:ah v lo ofs t x):ah V lo ofs t x:=ah.keep (Kfr.kept hk hr) (Nat.le_refl _) t x h
end
section
variable {ts:List Tok} {p:Option Addr} {b off cap n En:Nat}
theorem bL (tx:List UInt8)(σ:Sg)(w:World)(hS:SlT w p b off n ts)(hk:σ.k<=n) :
  Calls Tryz.prog 40 #[.agg #[.slice p n cap,zI zL (σ.k:Nat),zI zL En,zI zL σ.E,zI zL σ.O],.string (bs tx)] w fun e w'=>e = .returned (.agg #[.slice p n cap,zI zL ((σ.run ts En (need tx)).k:Nat),zI zL En,zI zL (σ.run ts En (need tx)).E,zI zL (σ.run ts En (need tx)).O])/\RowKit.Below w.heap.size w w':=by
 have hl:=hS.ln
 obtain⟨k,E,O⟩:=σ
 simp only at hk
 by_cases h0:E=0
 ·subst h0
  cases hw:isW tx (ts.drop k) with
  | true =>
   have hkt:k<ts.length:=by
    rcases Nat.lt_or_ge k ts.length with z|z
    ·exact z
    ·rw[List.drop_eq_nil_of_le z] at hw;cases hw
   have e:(Sg.mk k 0 O).run ts En (need tx)=⟨k+1,0,O⟩:=by
    simp only[Sg.run,if_true,need,hw]
    rw[List.tail_drop,List.length_drop,show ts.length-(ts.length-(k+1))=k+1 from zac]
   rw[e]
   exact yu tx ts p b off cap n k En O w hS hk hw
  | false =>
   have e:(Sg.mk k 0 O).run ts En (need tx)=⟨k,10,ag ts En (n-k)⟩:=by
    simp only[Sg.run,if_true,need,hw,bad,List.length_drop]
    rw[if_neg zah]
    simp only
    rw[show ts.length-(ts.length-k)=k from zac,hl]
   rw[e]
   have:=kR tx ts p b off cap n k En 0 O w hS hk (.inr ⟨rfl,hw⟩)
   rw[if_pos rfl,if_pos rfl] at this
   exact this
 ·rw[dx h0]
  have:=kR tx ts p b off cap n k En E O w hS hk (.inl h0)
  rw[if_neg h0,if_neg h0] at this
  exact this
end
end Go.Proofs.YtnjfolljbfkojaaGreatDoor
