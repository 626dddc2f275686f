import Derived.Test.YtnjfolljbfkojaaGreatDoorMAE
set_option maxRecDepth 100000
set_option maxHeartbeats 20000000
namespace Go.Proofs.YtnjfolljbfkojaaGreatDoor
open Go.Value renaming int→zI
open Go.IntKind renaming i64→zL
open Go.Lib renaming hid→zH
open Go.RowKit Lx Pa
theorem aj (ts:List Tok)(p:Option Addr)(b off cap n k En:Nat)(E O:Int)(w:World)(hS:SlT w p b off n ts)(hk:k<=n) :
  Calls Tryz.prog 19 #[.agg #[.slice p n cap,zI zL k,zI zL En,zI zL E,zI zL O]] w fun e w'=>e = .returned (zI zL (ag ts En (n-k)))/\RowKit.Below w.heap.size w w':=by
 have HB:=zH ((Below.refl w.heap.size w).alloc (Nat.le_refl _) (.cells #[.slice p n cap,zI zL k,zI zL En,zI zL E,zI zL O] 62))
 have hl:=hS.ln
 have hmx:=hS.max
 by_cases h:k<n
 ·have hz:(k:Int)<(n:Int):=by omega
  have hkt:k<ts.length:=zac
  have E1:Hid (ag ts En (n-k)=ts[k].a):=vT hkt hl.symm En
  have hp:=hS.ptr zac
  obtain⟨a0,a1,a2,a3,a4⟩:=(hS.bel HB.out).cells k hkt
  generalize ts[k]=t at *
  subst hp
  clear hS
  go_enter Tryz.func19,Tryz.ntmps19
  go_wp2_with fail
  go_ret
  exact⟨bg E1.out.symm,HB.out⟩
 ·have hz:¬(k:Int)<(n:Int):=by omega
  have E1:Hid (ag ts En (n-k)=En):=by
   show _=_
   rw[show n-k=0 from zac];exact qB En
  clear hS
  go_enter Tryz.func19,Tryz.ntmps19
  go_wp2_with fail
  go_ret
  exact⟨bg E1.out.symm,HB.out⟩
theorem bA (p:Option Addr)(n cap:Nat)(k En E O e0 at0:Int)(w:World) :
  Calls Tryz.prog 27 #[.agg #[.slice p n cap,zI zL k,zI zL En,zI zL E,zI zL O],zI zL e0,zI zL at0] w fun e w'=>e = .returned (.agg #[.slice p n cap,zI zL k,zI zL En,zI zL (if E=0 then e0 else E),zI zL (if E=0 then at0 else O)])/\RowKit.Below w.heap.size w w':=by
 have HR:=zH (Below.refl w.heap.size w)
 by_cases h:E=0
 ·subst h
  rw[if_pos rfl,if_pos rfl]
  go_enter Tryz.func27,Tryz.ntmps27
  go_wp2_with fail
  exact bodyPost_ret (v:= .agg #[.slice p n cap,zI zL k,zI zL En,zI zL e0,zI zL at0]) (by simp[results,Tryz.results27,go_sem]) rfl ⟨rfl,zaf⟩
 ·rw[if_neg h,if_neg h]
  have e1:(E==0)=false:=zbt
  go_enter Tryz.func27,Tryz.ntmps27
  go_wp2_with fail
  exact bodyPost_ret (v:= .agg #[.slice p n cap,zI zL k,zI zL En,zI zL E,zI zL O]) (by simp[results,Tryz.results27,go_sem]) rfl ⟨rfl,zaf⟩
theorem yM {ts:List Tok}{k:Nat}(h:k<ts.length)(s:List UInt8):isW s (ts.drop k)=isT s ts[k]:=by rw[List.drop_eq_getElem_cons h];rfl
theorem xD {ts:List Tok}{k:Nat}(h:ts.length<=k)(s:List UInt8):isW s (ts.drop k)=false:=by rw[List.drop_eq_nil_of_le h];rfl
theorem qz {ts:List Tok}{k:Nat}(h:k<ts.length):isN (ts.drop k)=decide (ts[k].k=2):=by rw[List.drop_eq_getElem_cons h];rfl
theorem yl {ts:List Tok}{k:Nat}(h:ts.length<=k):isN (ts.drop k)=false:=by rw[List.drop_eq_nil_of_le h];rfl
theorem tN (a b:List UInt8):((bs a).toList==(bs b).toList)=(a==b):=by rw[aM,aM]
theorem nN (tx:List UInt8)(p:Option Addr)(cap n:Nat)(k En E O:Int)(w:World)(hE:E≠0) :
  Calls Tryz.prog 20 #[.agg #[.slice p n cap,zI zL k,zI zL En,zI zL E,zI zL O],.string (bs tx)] w fun e w'=>e = .returned (.bool false)/\RowKit.Below w.heap.size w w':=by
 have HB:=zH ((Below.refl w.heap.size w).alloc (Nat.le_refl _) (.cells #[.slice p n cap,zI zL k,zI zL En,zI zL E,zI zL O] 62))
 have e1:(E==0)=false:=zcv
 go_enter Tryz.func20,Tryz.ntmps20
 go_wp2_with fail
 go_ret
 exact⟨rfl,HB.out⟩
theorem bE (tx:List UInt8)(ts:List Tok)(p:Option Addr)(b off cap n k:Nat)(En O:Int)(w:World)(hS:SlT w p b off n ts) :
  Calls Tryz.prog 20 #[.agg #[.slice p n cap,zI zL k,zI zL En,zI zL 0,zI zL O],.string (bs tx)] w fun e w'=>e = .returned (.bool (isW tx (ts.drop k)))/\RowKit.Below w.heap.size w w':=by
 have HB:=zH ((Below.refl w.heap.size w).alloc (Nat.le_refl _) (.cells #[.slice p n cap,zI zL k,zI zL En,zI zL 0,zI zL O] 62))
 have hl:=hS.ln
 have hmx:=hS.max
 by_cases h:k<n
 ·have hz:(k:Int)<(n:Int):=by omega
  have hkt:k<ts.length:=zac
  have E1:Hid (isW tx (ts.drop k)=(decide (ts[k].k≠2)&&ts[k].t==tx)):=yM hkt tx
  have hp:=hS.ptr zac
  obtain⟨a0,a1,a2,a3,a4⟩:=(hS.bel HB.out).cells k hkt
  generalize ts[k]=t at *
  obtain⟨tk,ta,tt,tn,td⟩:=t
  simp only at E1 a0 a1 a2 a3 a4
  generalize isW tx (ts.drop k)=R at *
  subst hp
  clear hS
  by_cases h2:tk=2
  ·subst h2
   have E2:Hid (R=false):=by show _=_;rw[E1.out];rfl
   clear E1
   go_enter Tryz.func20,Tryz.ntmps20
   go_wp2_with fail
   go_ret
   exact⟨aD E2.out.symm,HB.out⟩
  ·have e2:(tk != 2)=true:=by simpa using h2
   have e3:=tN tt tx
   have E2:Hid (R=(tt==tx)):=by show _=_;rw[E1.out,decide_eq_true h2,Bool.true_and]
   clear E1
   generalize (tt==tx)=q at *
   go_enter Tryz.func20,Tryz.ntmps20
   go_wp2_with fail
   go_ret
   exact⟨aD E2.out.symm,HB.out⟩
 ·have hz:¬(k:Int)<(n:Int):=by omega
  have E1:Hid (isW tx (ts.drop k)=false):=xD zac tx
  generalize isW tx (ts.drop k)=R at *
  clear hS
  go_enter Tryz.func20,Tryz.ntmps20
  go_wp2_with fail
  go_ret
  exact⟨aD E1.out.symm,HB.out⟩
theorem tO (p:Option Addr)(cap n:Nat)(k En E O:Int)(w:World)(hE:E≠0) :
  Calls Tryz.prog 67 #[.agg #[.slice p n cap,zI zL k,zI zL En,zI zL E,zI zL O]] w fun e w'=>e = .returned (.bool false)/\RowKit.Below w.heap.size w w':=by
 have HB:=zH ((Below.refl w.heap.size w).alloc (Nat.le_refl _) (.cells #[.slice p n cap,zI zL k,zI zL En,zI zL E,zI zL O] 62))
 have e1:(E==0)=false:=zcv
 go_enter Tryz.func67,Tryz.ntmps67
 go_wp2_with fail
 go_ret
 exact⟨rfl,HB.out⟩
theorem bR (ts:List Tok)(p:Option Addr)(b off cap n k:Nat)(En O:Int)(w:World)(hS:SlT w p b off n ts) :
  Calls Tryz.prog 67 #[.agg #[.slice p n cap,zI zL k,zI zL En,zI zL 0,zI zL O]] w fun e w'=>e = .returned (.bool (isN (ts.drop k)))/\RowKit.Below w.heap.size w w':=by
 have HB:=zH ((Below.refl w.heap.size w).alloc (Nat.le_refl _) (.cells #[.slice p n cap,zI zL k,zI zL En,zI zL 0,zI zL O] 62))
 have hl:=hS.ln
 have hmx:=hS.max
 by_cases h:k<n
 ·have hz:(k:Int)<(n:Int):=by omega
  have hkt:k<ts.length:=zac
  have E1:Hid (isN (ts.drop k)=decide (ts[k].k=2)):=qz hkt
  have hp:=hS.ptr zac
  obtain⟨a0,a1,a2,a3,a4⟩:=(hS.bel HB.out).cells k hkt
  generalize ts[k]=t at *
  obtain⟨tk,ta,tt,tn,td⟩:=t
  simp only at E1 a0 a1 a2 a3 a4
  generalize isN (ts.drop k)=R at *
  subst hp
  clear hS
  have E2:Hid (R=(tk==2)):=by show _=_;rw[E1.out];by_cases h:tk=2<;>simp[h]
  clear E1
  generalize e3:(tk==2)=q at *
  go_enter Tryz.func67,Tryz.ntmps67
  go_wp2_with fail
  go_ret
  exact⟨aD E2.out.symm,HB.out⟩
 ·have hz:¬(k:Int)<(n:Int):=by omega
  have E1:Hid (isN (ts.drop k)=false):=yl zac
  generalize isN (ts.drop k)=R at *
  clear hS
  go_enter Tryz.func67,Tryz.ntmps67
  go_wp2_with fail
  go_ret
  exact⟨aD E1.out.symm,HB.out⟩
def sv (x:List UInt8):Value:= .string (bs x)
theorem iO (w:World)(l:List (List UInt8))(T:Nat)(h:l.length<=1000000):SlS (w.alloc (.cells (l.map sv).toArray T)) (some ⟨w.heap.size,0,none⟩) w.heap.size 0 l.length l :=
 ⟨rfl,fun _=>rfl,fun k hk=>by
  rw[cell_of_row _ _ _ _ _ _ (heap_alloc_new w _),List.getElem?_toArray,Nat.zero_add,List.getElem?_map,List.getElem?_eq_getElem hk];rfl,fun _=>by simp,h⟩
theorem uR {l:List (List UInt8)}{tx:List UInt8}{k:Nat}(h:∀i (hi:i<l.length),i<k->l[i]≠tx)(hk:k<l.length)(hn:l[k]≠tx):∀i (hi:i<l.length),i<k+1->l[i]≠tx:=fun i hi hik=>by
 by_cases e:i=k
 ·subst e;exact hn
 ·exact h i hi zac
theorem mH (tx:List UInt8)(w:World):Calls Tryz.prog 82 #[.string (bs tx)] w fun e w'=>e = .returned (.bool (reserved.contains tx))/\RowKit.Below w.heap.size w w':=by
 obtain⟨W1,hW1⟩:∃W1,W1=w.alloc (.cells #[.string { data:=#[97,98,111,117,116] },.string { data:=#[97,110,100] },.string { data:=#[97,114,101,97] },.string { data:=#[100,97,121,115] },.string { data:=#[101,108,115,101] },.string { data:=#[102,108,97,103] },.string { data:=#[102,114,111,109] },.string { data:=#[103,105,118,101] },.string { data:=#[105,102] },.string { data:=#[107,110,111,119,110] },.string { data:=#[109,97,120] },.string { data:=#[109,105,110] },.string { data:=#[109,111,110,101,121] },.string { data:=#[110,111,116] },.string { data:=#[110,117,109,98,101,114] },.string { data:=#[111,114] },.string { data:=#[116,104,101,110] },.string { data:=#[116,111] },.string { data:=#[116,114,117,101] },.string { data:=#[117,110,116,105,108] },.string { data:=#[119,104,101,110] }] 9):=⟨_,rfl⟩
 have HS:Hid (SlS W1 (some ⟨w.heap.size,0,none⟩) w.heap.size 0 21 reserved):=by rw[hW1];exact iO w reserved _ zah
 have HB:Hid (RowKit.Below w.heap.size w W1):=by rw[hW1];exact(Below.refl w.heap.size w).alloc (Nat.le_refl _) _
 have HLr:Hid (reserved.length=21):=rfl
 generalize reserved=R at *
 obtain⟨Q,hQ⟩:∃Q,R.contains tx=Q:=⟨_,rfl⟩
 rw[hQ]
 have HQ:=zH hQ
 clear hQ
 go_enter Tryz.func82,Tryz.ntmps82
 go_wp2_with fail
 rw[<-hW1]
 clear hW1
 go_loopg [4] 21 (fun g s4 wr=>∃k:Nat,s4 = zI zL k/\k<=21/\21-k<=g/\Hid (∀i (hi:i<R.length),i<k->R[i]≠tx)/\W1=wr)
 case atStart=>exact⟨0,rfl,zac,zac,fun i _ h=>absurd h (Nat.not_lt_zero _),rfl⟩
 case round =>
  obtain⟨k,rfl,hk,hkg,HN,rfl⟩:=hrel
  by_cases hlt:k<21
  ·have hltz:(k:Int)<21:=by omega
   have hkl:k<R.length:=by rw[HLr.out];exact hlt
   have c1:=HS.out.cells k hkl
   have c2:=c1
   rw[Nat.zero_add] at c2
   have HT:=zH (fun h=>uR HN.out hkl h)
   have HM:Hid (R[k]=tx->Q=true):=fun e=>by have h:=HQ.out;rw[<-e] at h;rw[<-h];simp
   generalize R[k]=x at *
   by_cases hx:x=tx
   ·have HQ1:=zH (HM.out hx)
    subst hx
    have e1:((bs x).toList==(bs x).toList)=true:=by simp
    go_wp2_with fail
    go_ret
    exact⟨aD HQ1.out.symm,HB.out⟩
   ·have e1:((bs x).toList==(bs tx).toList)=false:=by rw[tN];simpa using hx
    have HT2:=zH (HT.out hx)
    go_wp2_with fail
    go_roundg (21-(k+1))
    case measure=>omega
    case rel=>exact⟨k+1,by go_num,zac,zac,HT2,rfl⟩
  ·have hltz:¬(k:Int)<21:=by omega
   have HE:Hid (Q=false):=by
    show _=_
    rw[<-HQ.out]
    cases h:R.contains tx with
    | false=>rfl
    | true =>
     exfalso
     have hm:tx∈R:=zbt
     obtain⟨i,hi,e⟩:=List.mem_iff_getElem.1 hm
     exact HN.out i hi (by have:=HLr.out;omega) e
   go_wp2_with fail
   go_ret
   exact⟨aD HE.out.symm,HB.out⟩
theorem yg {ts:List Tok}{k:Nat}(h:k<ts.length):isA (ts.drop k)=(decide (ts[k].k=1) && !(reserved.contains ts[k].t) && !(ts[k].t==sSc)):=by rw[List.drop_eq_getElem_cons h];rfl
theorem yh {ts:List Tok}{k:Nat}(h:ts.length<=k):isA (ts.drop k)=false:=by rw[List.drop_eq_nil_of_le h];rfl
def Wf (ts:List Tok):Prop:=∀t∈ts,t.k=1->t.t≠sSc
theorem ng (p:Option Addr)(cap n:Nat)(k En E O:Int)(w:World)(hE:E≠0) :
  Calls Tryz.prog 66 #[.agg #[.slice p n cap,zI zL k,zI zL En,zI zL E,zI zL O]] w fun e w'=>e = .returned (.bool false)/\RowKit.Below w.heap.size w w':=by
 have HB:=zH ((Below.refl w.heap.size w).alloc (Nat.le_refl _) (.cells #[.slice p n cap,zI zL k,zI zL En,zI zL E,zI zL O] 62))
 have e1:(E==0)=false:=zcv
 go_enter Tryz.func66,Tryz.ntmps66
 go_wp2_with fail
 go_ret
 exact⟨rfl,HB.out⟩
theorem bZ (ts:List Tok)(p:Option Addr)(b off cap n k:Nat)(En O:Int)(w:World)(hS:SlT w p b off n ts)(hwf:Wf ts) :
  Calls Tryz.prog 66 #[.agg #[.slice p n cap,zI zL k,zI zL En,zI zL 0,zI zL O]] w fun e w'=>e = .returned (.bool (isA (ts.drop k)))/\RowKit.Below w.heap.size w w':=by
 have HB:=zH ((Below.refl w.heap.size w).alloc (Nat.le_refl _) (.cells #[.slice p n cap,zI zL k,zI zL En,zI zL 0,zI zL O] 62))
 have hl:=hS.ln
 have hmx:=hS.max
 by_cases h:k<n
 ·have hz:(k:Int)<(n:Int):=by omega
  have hkt:k<ts.length:=zac
  have hw:=hwf ts[k] (List.getElem_mem hkt)
  have E1:Hid (isA (ts.drop k)=(decide (ts[k].k=1) && !(reserved.contains ts[k].t) && !(ts[k].t==sSc))):=yg hkt
  have hp:=hS.ptr zac
  obtain⟨a0,a1,a2,a3,a4⟩:=(hS.bel HB.out).cells k hkt
  generalize ts[k]=t at *
  obtain⟨tk,ta,tt,tn,td⟩:=t
  simp only at E1 a0 a1 a2 a3 a4 hw
  generalize isA (ts.drop k)=R at *
  subst hp
  clear hS hwf
  have KR:=zH (mH tt)
  by_cases h1:tk=1
  ·subst h1
   have E2:Hid (R=!reserved.contains tt):=by
    show _=_
    have:(tt==sSc)=false:=by simpa using hw rfl
    rw[E1.out,this];simp
   clear E1 hw
   generalize reserved.contains tt=q at *
   go_enter Tryz.func66,Tryz.ntmps66
   go_wp2_with fail
   refine(KR.out _).mono ?_
   rintro _ v1 ⟨rfl,hb⟩
   have B1:=zH (HB.out.trans (hb.mono HB.out.size))
   clear hb
   go_wp2_with fail
   go_ret
   exact⟨aD E2.out.symm,B1.out⟩
  ·have e3:(tk==1)=false:=by simpa using h1
   have E2:Hid (R=false):=by show _=_;rw[E1.out,decide_eq_false h1];rfl
   clear E1 hw
   go_enter Tryz.func66,Tryz.ntmps66
   go_wp2_with fail
   go_ret
   exact⟨aD E2.out.symm,HB.out⟩
 ·have hz:¬(k:Int)<(n:Int):=by omega
  have E1:Hid (isA (ts.drop k)=false):=yh zac
  generalize isA (ts.drop k)=R at *
  clear hS
  go_enter Tryz.func66,Tryz.ntmps66
  go_wp2_with fail
  go_ret
  exact⟨aD E1.out.symm,HB.out⟩
def fnd (q:List UInt8->Bool):List (List UInt8)->Nat->Option Nat
 | [],_=>none
 | s::l,i=>if q s=true then some i else fnd q l (i+1)
theorem wP (ts:List Tok):∀(l:List (List UInt8)) (i:Nat),whichI l ts i=fnd (fun s=>isW s ts) l i:=by
 intro l
 induction l with
 | nil=>intro i;rfl
 | cons s l ih=>intro i;rw[whichI,fnd,ih]
theorem qH {q:List UInt8->Bool}:∀(l:List (List UInt8)) (i:Nat),(∀j (hj:j<l.length),q l[j]=false)->fnd q l i=none:=by
 intro l
 induction l with
 | nil=>intro i _;rfl
 | cons s l ih =>
  intro i h
  have h0:q s=false:=h 0 (by simp)
  rw[fnd,h0,if_neg (by simp)]
  exact ih _ fun j hj=>h (j+1) (by simpa using hj)
theorem zz {q:List UInt8->Bool}:∀(l:List (List UInt8)) (i0 i:Nat) (hi:i<l.length),(∀j (hj:j<l.length),j<i->q l[j]=false)->q l[i]=true->fnd q l i0=some (i0+i):=by
 intro l
 induction l with
 | nil=>intro i0 i hi;simp at hi
 | cons s l ih =>
  intro i0 i hi h hq
  cases i with
  | zero=>rw[fnd,if_pos (by simpa using hq)];rfl
  | succ i =>
   have h0:q s=false:=h 0 (by simp) zac
   rw[fnd,h0,if_neg (by simp),ih (i0+1) i (by simpa using hi) (fun j hj hji=>by have:=h (j+1) (by simpa using hj) zac;simpa using this) (by simpa using hq)]
   congr 1;omega
def whV:Option Nat->Int
 | none=>-1
 | some i=>i
theorem qD (q:List UInt8->Bool)(l:List (List UInt8))(ts:List Tok)(p p2:Option Addr)(b off cap n k b2 off2 cap2 len2:Nat)(En E O:Int)(w:World)(hS:SlT w p b off n ts)(hL:SlS w p2 b2 off2 len2 l)
  (hq:∀(s:List UInt8) (w:World),SlT w p b off n ts->Calls Tryz.prog 20 #[.agg #[.slice p n cap,zI zL k,zI zL En,zI zL E,zI zL O],.string (bs s)] w fun e w'=>e = .returned (.bool (q s))/\RowKit.Below w.heap.size w w') :
  Calls Tryz.prog 42 #[.agg #[.slice p n cap,zI zL k,zI zL En,zI zL E,zI zL O],.slice p2 len2 cap2] w fun e w'=>e = .returned (zI zL (whV (fnd q l 0)))/\RowKit.Below w.heap.size w w':=by
 have HB:=zH ((Below.refl w.heap.size w).alloc (Nat.le_refl _) (.cells #[.slice p n cap,zI zL k,zI zL En,zI zL E,zI zL O] 62))
 have BA:=zH (B5.new w (.slice p n cap) (zI zL k) (zI zL En) (zI zL E) (zI zL O) 62)
 have HS:=zH hS
 have HL:=zH hL
 have HQ:=zH hq
 have hmx:=hL.max
 have hln:=hL.ln
 have HF:=zH (fun (i:Nat) (hi:i<l.length)=>zz (q:=q) l 0 i hi)
 have HN:=zH (qH (q:=q) l 0)
 obtain⟨R,hR⟩:∃R,fnd q l 0=R:=⟨_,rfl⟩
 rw[hR] at HF HN |-
 clear hS hL hq hR
 go_enter Tryz.func42,Tryz.ntmps42
 go_wp2_with fail
 generalize w.alloc (.cells #[.slice p n cap,zI zL k,zI zL En,zI zL E,zI zL O] 62)=W1 at *
 go_loopg [5] len2 (fun g s5 wr=>∃i:Nat,s5 = zI zL i/\i<=len2/\len2-i<=g/\Hid (∀j (hj:j<l.length),j<i->q l[j]=false)/\Hid (RowKit.Below W1.heap.size W1 wr))
 case atStart=>exact⟨0,rfl,zac,zac,fun j _ h=>absurd h (Nat.not_lt_zero _),Below.refl _ _⟩
 case round =>
  obtain⟨i,rfl,hi,hig,HX,HW⟩:=hrel
  have A1:=zH (BA.out.bel HW.out)
  have hB0:=zH (HB.out.trans (HW.out.mono HB.out.size))
  by_cases hlt:i<len2
  ·have hltz:(i:Int)<(len2:Int):=by omega
   have hil:i<l.length:=zac
   have hp2:=HL.out.ptr zac
   have S1:=zH (HS.out.bel hB0.out)
   have hb2:b2<wr.heap.size:=Nat.lt_of_lt_of_le (HL.out.lt zac) hB0.out.size
   have x1:=(HL.out.bel hB0.out).cells i hil
   have hba:=World.block_lt_of_cell? _ _ A1.out.c0
   have c0:=ax (a:=⟨w.heap.size,0,none⟩) hba A1.out.c0
   have c1:=ax (a:=⟨w.heap.size,1,none⟩) hba A1.out.c1
   have c2:=ax (a:=⟨w.heap.size,2,none⟩) hba A1.out.c2
   have c3:=ax (a:=⟨w.heap.size,3,none⟩) hba A1.out.c3
   have c4:=ax (a:=⟨w.heap.size,4,none⟩) hba A1.out.c4
   have x2:=ax (a:=⟨b2,off2+i,none⟩) hb2 x1
   have HF1:=zH (HF.out i hil HX.out)
   have HX1:Hid (q l[i]=false->∀j (hj:j<l.length),j<i+1->q l[j]=false):=fun h j hj hji=>by
    by_cases e:j=i
    ·subst e;exact h
    ·exact HX.out j hj zac
   generalize l[i]=s at *
   have KI:=zH (fun pw:Bw wr=>HQ.out s pw.w' (S1.out.bel pw.h))
   generalize hqs:q s=r at *
   clear x1 hqs
   subst hp2
   go_wp2_with fail
   refine fQ mixed zab ?_
   repeat (go_big_quiet_step ((with_reducible refine Calls.bw_of (KI.out _))))
   refine wpQuiet_nil ?_
   intro W HW
   replace HW:=wH HW
   cases r with
   | true =>
    have HR:Hid (R=some (0+i)):=HF1.out rfl
    go_wp2_with fail
    go_ret
    exact⟨bg (by rw[HR.out,Nat.zero_add];rfl),hB0.out.trans (HW.mono hB0.out.size)⟩
   | false =>
    have HX2:=zH (HX1.out rfl)
    go_wp2_with fail
    go_roundg (len2-(i+1))
    case measure=>omega
    case rel=>exact⟨i+1,by go_num,zac,zac,HX2,‹Hid (RowKit.Below W1.heap.size W1 wr)›.out.trans (‹RowKit.Below wr.heap.size wr _›.mono ‹Hid (RowKit.Below W1.heap.size W1 wr)›.out.size)⟩
  ·have hltz:¬(i:Int)<(len2:Int):=by omega
   have HR:Hid (R=none):=HN.out fun j hj=>HX.out j hj zac
   go_wp2_with fail
   go_ret
   exact⟨bg zbu,hB0.out⟩
theorem bM (l:List (List UInt8))(ts:List Tok)(p p2:Option Addr)(b off cap n k b2 off2 cap2 len2:Nat)(En O:Int)(w:World)(hS:SlT w p b off n ts)(hL:SlS w p2 b2 off2 len2 l) :
  Calls Tryz.prog 42 #[.agg #[.slice p n cap,zI zL k,zI zL En,zI zL 0,zI zL O],.slice p2 len2 cap2] w fun e w'=>e = .returned (zI zL (whV (which l (ts.drop k))))/\RowKit.Below w.heap.size w w':=by
 have h:=qD (fun s=>isW s (ts.drop k)) l ts p p2 b off cap n k b2 off2 cap2 len2 En 0 O w hS hL (fun s w hS=>bE s ts p b off cap n k En O w hS)
 rw[<-wP] at h
 exact h
theorem iA (l:List (List UInt8))(ts:List Tok)(p p2:Option Addr)(b off cap n k b2 off2 cap2 len2:Nat)(En E O:Int)(w:World)(hS:SlT w p b off n ts)(hL:SlS w p2 b2 off2 len2 l)(hE:E≠0) :
  Calls Tryz.prog 42 #[.agg #[.slice p n cap,zI zL k,zI zL En,zI zL E,zI zL O],.slice p2 len2 cap2] w fun e w'=>e = .returned (zI zL (-1))/\RowKit.Below w.heap.size w w':=by
 have h:=qD (fun _=>false) l ts p p2 b off cap n k b2 off2 cap2 len2 En E O w hS hL (fun s w hS=>nN s p cap n k En E O w hE)
 rw[qH _ _ (fun _ _=>rfl)] at h
 exact h
def EL (l:List (List UInt8))(w:World)(e:Ending)(w':World):Prop:=∃q b cap,e = .returned (.slice q l.length cap)/\SlS w' q b 0 l.length l/\RowKit.Below w.heap.size w w'
theorem dY (w:World):Calls Tryz.prog 43 #[] w fun e w'=>EL units w e w':=by
 have HS:=zH (iO w units 9 zah)
 have HB:=zH ((Below.refl w.heap.size w).alloc (Nat.le_refl _) (.cells #[.string { data:=#[102,108,97,103] },.string { data:=#[110,117,109,98,101,114] },.string { data:=#[109,111,110,101,121] },.string { data:=#[97,114,101,97] },.string { data:=#[100,97,121,115] }] 9))
 have HF:Hid (EL units w (.returned (.slice (some ⟨w.heap.size,0,none⟩) 5 5)) (w.alloc (.cells #[.string { data:=#[102,108,97,103] },.string { data:=#[110,117,109,98,101,114] },.string { data:=#[109,111,110,101,121] },.string { data:=#[97,114,101,97] },.string { data:=#[100,97,121,115] }] 9))):=⟨_,_,_,rfl,HS.out,HB.out⟩
 clear HS HB
 go_enter Tryz.func43,Tryz.ntmps43
 go_wp2_with fail
 go_ret
 exact HF.out
theorem lw (w:World):Calls Tryz.prog 46 #[] w fun e w'=>EL kinds w e w':=by
 have HS:=zH (iO w kinds 9 zah)
 have HB:=zH ((Below.refl w.heap.size w).alloc (Nat.le_refl _) (.cells #[.string { data:=#[99,104,97,114,103,101] },.string { data:=#[114,105,103,104,116] },.string { data:=#[100,117,116,121] },.string { data:=#[98,97,110] },.string { data:=#[114,111,111,109,115] },.string { data:=#[118,111,116,101] },.string { data:=#[110,111,116,105,99,101] }] 9))
 have HF:Hid (EL kinds w (.returned (.slice (some ⟨w.heap.size,0,none⟩) 7 7)) (w.alloc (.cells #[.string { data:=#[99,104,97,114,103,101] },.string { data:=#[114,105,103,104,116] },.string { data:=#[100,117,116,121] },.string { data:=#[98,97,110] },.string { data:=#[114,111,111,109,115] },.string { data:=#[118,111,116,101] },.string { data:=#[110,111,116,105,99,101] }] 9))):=⟨_,_,_,rfl,HS.out,HB.out⟩
 clear HS HB
 go_enter Tryz.func46,Tryz.ntmps46
 go_wp2_with fail
 go_ret
 exact HF.out
theorem iq (u:Nat)(w:World)(hu:u<5):Calls Tryz.prog 44 #[zI zL u] w fun e w'=>e = .returned (.agg #[.bool (uF u),zI zL (uM u),zI zL (uA u),zI zL (uD u)])/\RowKit.Below w.heap.size w w':=by
 have HR:=zH (Below.refl w.heap.size w)
 have h5:u=0\/u=1\/u=2\/u=3\/u=4:=zac
 rcases h5 with rfl|rfl|rfl|rfl|rfl
 ·go_enter Tryz.func44,Tryz.ntmps44
  go_wp2_with fail
  exact bodyPost_ret (v:= .agg #[.bool true,zI zL 0,zI zL 0,zI zL 0]) zct rfl ⟨rfl,zaf⟩
 ·go_enter Tryz.func44,Tryz.ntmps44
  go_wp2_with fail
  exact bodyPost_ret (v:= .agg #[.bool false,zI zL 0,zI zL 0,zI zL 0]) zct rfl ⟨rfl,zaf⟩
 ·go_enter Tryz.func44,Tryz.ntmps44
  go_wp2_with fail
  exact bodyPost_ret (v:= .agg #[.bool false,zI zL 1,zI zL 0,zI zL 0]) zct rfl ⟨rfl,zaf⟩
 ·go_enter Tryz.func44,Tryz.ntmps44
  go_wp2_with fail
  exact bodyPost_ret (v:= .agg #[.bool false,zI zL 0,zI zL 1,zI zL 0]) zct rfl ⟨rfl,zaf⟩
 ·go_enter Tryz.func44,Tryz.ntmps44
  go_wp2_with fail
  exact bodyPost_ret (v:= .agg #[.bool false,zI zL 0,zI zL 0,zI zL 1]) zct rfl ⟨rfl,zaf⟩
structure SlI (w:World) (p:Option Addr) (b off len:Nat) (l:List Int):Prop where
 ln:l.length=len
 ptr:0<len->p=some ⟨b,off,none⟩
 cells:∀(k:Nat) (h:k<l.length),w.cell? ⟨b,off+k,none⟩=some (zI zL l[k])
 lt:0<len->b<w.heap.size
theorem SlI.bel {w w1:World}{p:Option Addr}{b off len:Nat}{l:List Int}(h:SlI w p b off len l)(hB:RowKit.Below w.heap.size w w1):SlI w1 p b off len l :=
 ⟨h.ln,h.ptr,fun k hk=>(hB.cell (p:=⟨b,off+k,none⟩) (h.lt (by have:=h.ln;omega))).trans (h.cells k hk),fun x=>Nat.lt_of_lt_of_le (h.lt x) hB.size⟩
theorem Ar (w:World)(l:List Int)(T:Nat):SlI (w.alloc (.cells (l.map fun x=>Value.int .i64 x).toArray T)) (some ⟨w.heap.size,0,none⟩) w.heap.size 0 l.length l :=
 ⟨rfl,fun _=>rfl,fun k hk=>by
  rw[cell_of_row _ _ _ _ _ _ (heap_alloc_new w _),List.getElem?_toArray,Nat.zero_add,List.getElem?_map,List.getElem?_eq_getElem hk];rfl,fun _=>by simp⟩
end Go.Proofs.YtnjfolljbfkojaaGreatDoor
