import Derived.Test.YtnjfolljbfkojaaGreatDoorMAG
import Derived.Test.YtnjfolljbfkojaaGreatDoorMAF
import Derived.Test.YtnjfolljbfkojaaGreatDoorMAH
set_option maxRecDepth 100000
set_option maxHeartbeats 20000000
namespace Go.Proofs.YtnjfolljbfkojaaGreatDoor
open Go.Value renaming int→zI
open Go.IntKind renaming i64→zL
open Go.Lib renaming hid→zH
open Go.RowKit Lx Pa
theorem iF {b cap qb En mb k:Nat}{p:Option Addr}{ts:List Tok}(w:World)(h:Rd w b p cap qb ts En mb k):Calls Tryz.prog 34 #[.pointer (some ⟨b,0,none⟩)] w fun e w'=>e = .returned (.bool (decide (k=ts.length)))/\RowKit.Below w.heap.size w w':=by
 obtain⟨c0,c1,-,-,-,hS,-,-,-,hk,-⟩:=h
 have hm:=hS.max
 clear hS
 have HE:Hid (((k:Int)==(ts.length:Int))=decide (k=ts.length)):=by
  show _=_
  by_cases e:k=ts.length
  ·rw[decide_eq_true e,e];simp
  ·rw[decide_eq_false e];simp;omega
 go_enter Tryz.func34,Tryz.ntmps34
 go_wp2_with fail
 go_quiet (fail)
 go_wp2_with fail
 go_ret
 exact⟨aD HE.out,below_drewN (Below.refl _ _) _⟩
theorem aC {b cap qb En mb k:Nat}{p:Option Addr}{ts:List Tok}(w:World)(h:Rd w b p cap qb ts En mb k):Calls Tryz.prog 55 #[.pointer (some ⟨b,0,none⟩)] w fun e w'=>e = .returned (fI (pk ts En k))/\RowKit.Below w.heap.size w w':=by
 have hmx:=h.tk.max
 have hb:=h.lt
 have KE:=zH (fun w h=>iF (b:=b) (cap:=cap) (qb:=qb) (En:=En) (mb:=mb) (k:=k) (p:=p) (ts:=ts) w h)
 obtain⟨W1,hW1⟩:∃W1,W1=w.alloc (.cells #[zI zL 0,zI zL 0,.string ⟨#[]⟩,zI zL 0,zI zL 0] 86):=⟨_,rfl⟩
 have B1:=zH ((Below.refl w.heap.size w).alloc (Nat.le_refl _) (.cells #[zI zL 0,zI zL 0,.string ⟨#[]⟩,zI zL 0,zI zL 0] 86))
 have X1:=zH (B5.new w (zI zL 0) (zI zL 0) (.string ⟨#[]⟩) (zI zL 0) (zI zL 0) 86)
 rw[<-hW1] at B1 X1
 have R1:=zH (h.bel B1.out)
 by_cases hk:k<ts.length
 ·have hd:decide (k=ts.length)=false:=decide_eq_false zac
  rw[hd] at KE
  rw[jO hk]
  have hz:(k:Int)<(ts.length:Int):=zac
  have hq:w.heap.size≠qb:=by have:=h.tk.lt zac;omega
  have hq2:w.heap.size≠b:=zac
  have hpt:=h.tk.ptr zac
  subst hpt
  have HC:=zH (fun v (h:Rd v b (some ⟨qb,0,none⟩) cap qb ts En mb k)=>h.tk.cells k hk)
  generalize ts[k]=t at HC |-
  obtain⟨tk,ta,tt,tn,td⟩:=t
  clear hd h
  go_enter Tryz.func55,Tryz.ntmps55
  go_wp2_with fail
  rw[<-hW1]
  clear hW1
  refine(KE.out _ R1.out).mono ?_
  rintro _ v ⟨rfl,hb⟩
  have BV:=zH (B1.out.trans (hb.mono B1.out.size))
  have RV:=zH (R1.out.bel hb)
  have XV:=zH (X1.out.bel hb)
  clear hb R1 X1 B1 KE
  obtain⟨c0,c1,-,-,-,-,-,-,-,-,-⟩:=RV.out
  obtain⟨a0,a1,a2,a3,a4⟩:=HC.out _ RV.out
  obtain⟨x0,x1,x2,x3,x4,g0,g1,g2,g3,g4⟩:=XV.out
  go_wp2_with fail
  clear RV HC
  have hv:=World.block_lt_of_cell? _ _ c0
  rw[Nat.zero_add] at a0 a1 a2 a3 a4
  generalize ts.length=n at *
  have hS:(v.drew.cell? ⟨b,0,none⟩=some (.slice (some ⟨qb,0,none⟩) n cap)/\v.drew.cell? ⟨b,1,none⟩=some (zI zL k))/\v.drew.cell? ⟨qb,k*5,none⟩=some (zI zL tk)/\v.drew.cell? ⟨qb,k*5+1,none⟩=some (zI zL ta)/\v.drew.cell? ⟨qb,k*5+2,none⟩=some (.string (bs tt))/\v.drew.cell? ⟨qb,k*5+3,none⟩=some (zI zL tn)/\v.drew.cell? ⟨qb,k*5+4,none⟩=some (zI zL td):=⟨⟨c0,c1⟩,a0,a1,a2,a3,a4⟩
  refine wp_region_held (S:=(fun w':World=>(w'.cell? ⟨b,0,none⟩=some (.slice (some ⟨qb,0,none⟩) n cap)/\w'.cell? ⟨b,1,none⟩=some (zI zL k))/\w'.cell? ⟨qb,k*5,none⟩=some (zI zL tk)/\w'.cell? ⟨qb,k*5+1,none⟩=some (zI zL ta)/\w'.cell? ⟨qb,k*5+2,none⟩=some (.string (bs tt))/\w'.cell? ⟨qb,k*5+3,none⟩=some (zI zL tn)/\w'.cell? ⟨qb,k*5+4,none⟩=some (zI zL td))) mixed ?_
  change wpAnyH _ _ _ _ _ _ _ _ v.drew
  refine tk0 (v:=?_) zab zab zab (fun _ _ _ h=>h) (Or.inl ⟨by rfl,?_⟩) hS ?_
  rotate_left
  ·(intro w hSw;(try dsimp only at hSw);go_simp;try with_reducible rfl)
  simp only[Act.put,zA,zB,zC]
  refine tk1 (v:=?_) zab zab zab (fun _ _ _ h=>h) (Or.inl ⟨by rfl,?_⟩) hS ?_
  rotate_left
  ·(intro w hSw;(try dsimp only at hSw);go_simp;try with_reducible rfl)
  simp only[Act.put,zA,zB,zC]
  refine tk2 (v:=?_) zab zab zab (fun _ _ _ h=>h) (Or.inl ⟨by rfl,?_⟩) hS ?_
  rotate_left
  ·(intro w hSw;(try dsimp only at hSw);go_simp;try with_reducible rfl)
  simp only[Act.put,zA,zB,zC]
  refine tk3 (v:=?_) zab zab zab (fun _ _ _ h=>h) (Or.inl ⟨by rfl,?_⟩) hS ?_
  rotate_left
  ·(intro w hSw;(try dsimp only at hSw);go_simp;try with_reducible rfl)
  simp only[Act.put,zA,zB,zC]
  refine tk4 (v:=?_) zab zab zab (fun _ _ _ h=>h) (Or.inl ⟨by rfl,?_⟩) hS ?_
  rotate_left
  ·(intro w hSw;(try dsimp only at hSw);go_simp;try with_reducible rfl)
  simp only[Act.put,zA,zB,zC]
  refine tk5 (v:=?_) zab zab zab (fun _ _ _ h=>h) (Or.inl ⟨by rfl,?_⟩) hS ?_
  rotate_left
  ·(intro w hSw;(try dsimp only at hSw);go_simp;try with_reducible rfl)
  simp only[Act.put,zA,zB,zC]
  refine tk6 (v:=?_) zab zab zab (fun _ _ _ h=>h) (Or.inl ⟨by rfl,?_⟩) hS ?_
  rotate_left
  ·(intro w hSw;(try dsimp only at hSw);go_simp;try with_reducible rfl)
  simp only[Act.put,zA,zB,zC]
  refine tk7 (v:=?_) zab zab zab (fun _ _ _ h=>h) (Or.inl ⟨by rfl,?_⟩) hS ?_
  rotate_left
  ·(intro w hSw;(try dsimp only at hSw);go_simp;try with_reducible rfl)
  simp only[Act.put,zA,zB,zC]
  refine tk8 (v:=?_) zab zab zab (fun _ _ _ h=>h) (Or.inl ⟨by rfl,?_⟩) hS ?_
  rotate_left
  ·(intro w hSw;(try dsimp only at hSw);go_simp;try with_reducible rfl)
  simp only[Act.put,zA,zB,zC]
  refine tk9 (v:=?_) zab zab zab (fun _ _ _ h=>h) (Or.inl ⟨by rfl,?_⟩) hS ?_
  rotate_left
  ·(intro w hSw;(try dsimp only at hSw);go_simp;try with_reducible rfl)
  simp only[Act.put,zA,zB,zC]
  refine wpAnyH_ready (rs:=[10]) zab (by simp) (Ei (fun K hK=>?_) AllReadyH.nil)
  go_simp
  refine hK.out _ _ ?_ (fun hHeld=>?_)
  ·exact(by refine⟨⟨?_,?_⟩,?_,?_,?_,?_,?_⟩<;>simp[go_sem,c0,c1,a0,a1,a2,a3,a4])
  clear hK K
  try simp only[Act.put,zA,zB,zC]
  refine wpAnyH_done zab ?_ _
  go_wp2_with fail
  exact bodyPost_ret (v:=fI ⟨tk,ta,tt,tn,td⟩) (by simp[results,Tryz.results55,go_sem,fI,x0,x1,x2,x3,x4]) rfl ⟨rfl,zae⟩
 ·have hd:decide (k=ts.length)=true:=decide_eq_true (by have:=h.kl;omega)
  rw[hd] at KE
  rw[iI zac]
  clear hd h
  go_enter Tryz.func55,Tryz.ntmps55
  go_wp2_with fail
  rw[<-hW1]
  clear hW1
  refine(KE.out _ R1.out).mono ?_
  rintro _ v ⟨rfl,hb⟩
  have BV:=zH (B1.out.trans (hb.mono B1.out.size))
  have RV:=zH (R1.out.bel hb)
  have XV:=zH (X1.out.bel hb)
  clear hb R1 X1 B1 KE
  have c2:=RV.out.c2
  obtain⟨x0,x1,x2,x3,x4,g0,g1,g2,g3,g4⟩:=XV.out
  clear RV XV
  go_wp2_with fail
  exact bodyPost_ret (v:=fI ⟨0,En,[],0,0⟩) (by simp[results,Tryz.results55,go_sem,fI,x0,x1,x2,x3,x4,bs]) rfl ⟨rfl,zae⟩
theorem lD (E a:Int)(w:World):Calls Tryz.prog 32 #[zI zL E,zI zL a] w fun e w'=>e = .panicked (gK E a)/\w'=w:=by
 go_enter Tryz.func32,Tryz.ntmps32
 go_wp2
 exact aa rfl ⟨rfl,rfl⟩
theorem jN (k a n d:Int)(t:ByteArray)(w:World):(Instr.field 86 (.agg #[zI zL k,zI zL a,.string t,zI zL n,zI zL d]) 1).run Tryz.prog w = .ok (zI zL a) w:=zab
theorem dh (k a n d:Int)(t:ByteArray)(w:World):(Instr.field 86 (.agg #[zI zL k,zI zL a,.string t,zI zL n,zI zL d]) 2).run Tryz.prog w = .ok (.string t) w:=zab
theorem dI {b cap qb En mb k:Nat}{p:Option Addr}{ts:List Tok}(w:World)(h:Rd w b p cap qb ts En mb k):Calls Tryz.prog 49 #[.pointer (some ⟨b,0,none⟩)] w fun e w'=>e = .panicked (gK 10 (ag ts En (ts.length-k)))/\RowKit.Below w.heap.size w w':=by
 have KP:=zH (aC w h)
 rw[<-bF (En:=En) h.kl]
 clear h
 generalize pk ts En k=t at *
 obtain⟨tk,ta,tt,tn,td⟩:=t
 unfold fI at KP
 have hf:=jN
 go_enter Tryz.func49,Tryz.ntmps49
 go_wp2_with fail
 refine KP.out.mono ?_
 rintro _ v ⟨rfl,hb⟩
 have HB:=zH hb
 clear hb
 go_wp2_with fail
 refine(lD _ _ _).mono ?_
 rintro _ _ ⟨rfl,rfl⟩
 go_wp2_with fail
 exact aa rfl ⟨rfl,HB.out⟩
def idx (l:List (List UInt8))(x:List UInt8):Option Nat:=l.findIdx? (·==x)
theorem eZ {ts:List Tok}{En k:Nat}(hk:eQ ts):∀(l:List (List UInt8)) (i:Nat),[] ∉ l->whichI l (ts.drop k) i=(idx l (pk ts En k).t).map (·+i)
 | [],i,_=>rfl
 | s::l,i,hl=>by
  rw[whichI,qF (En:=En) hk (fun e=>hl (by simp[e])),eZ hk l (i+1) (fun e=>hl (by simp[e]))]
  unfold idx
  rw[List.findIdx?_cons]
  by_cases e:(pk ts En k).t=s
  ·subst e;simp
  ·have e1:((pk ts En k).t==s)=false:=by simpa using e
   have e2:(s==(pk ts En k).t)=false:=by simpa using Ne.symm e
   rw[e1,e2]
   simp only[Bool.false_eq_true,if_false,Option.map_map]
   congr 1
   funext x
   show x+(i+1)=x+1+i
   omega
theorem AB (a b:List UInt8):((bs a).toList==(bs b).toList)=(a==b):=by rw[aM,aM]
def pG (x:List UInt8):Int:=((idx kinds x).map fun i=>(i:Int)+1).getD 0
theorem rM (x:List UInt8)(w:World):Calls Tryz.prog 56 #[.string (bs x)] w fun e w'=>e = .returned (zI zL (pG x))/\w'=w:=by
 go_enter Tryz.func56,Tryz.ntmps56
 go_wp2_with fail
 all_goals
  go_ret
  refine⟨bg ?_,rfl⟩
  simp_all only [aM,beq_iff_eq,beq_eq_false_iff_ne,ne_eq]
  first|rfl|simp_all [pG,idx,kinds,List.findIdx?_cons,Ne.symm]
theorem fP (x:List UInt8)(w:World):Calls Tryz.prog 93 #[.string (bs x)] w fun e w'=>e = .returned (.bool (reserved.contains x))/\w'=w:=by
 go_enter Tryz.func93,Tryz.ntmps93
 go_wp2_with fail
 all_goals
  go_ret
  refine⟨aD ?_,rfl⟩
  simp_all only [aM,beq_iff_eq,beq_eq_false_iff_ne,ne_eq]
  first|rfl|simp_all [reserved,bC,Ct,xz,wS,cu,xe,dK,bi,kIf,bf,iy,gX,nY,oH,kr,kOr,dL,kTo,bB,aV,bD]
def uV (u:Option Nat):Value:=match u with
 | some u=> .agg #[.bool (uF u),zI zL (uM u),zI zL (uA u),zI zL (uD u)]
 | none=> .agg #[.bool false,zI zL 0,zI zL 0,zI zL 0]
theorem eH (x:List UInt8)(w:World):Calls Tryz.prog 94 #[.string (bs x)] w fun e w'=>e = .returned (.tuple #[uV (idx units x),.bool (idx units x).isSome])/\RowKit.Below w.heap.size w w':=by
 have HB:=zH (Below.refl w.heap.size w)
 go_enter Tryz.func94,Tryz.ntmps94
 go_wp2_with fail
 all_goals
  simp_all only [aM,beq_iff_eq,beq_eq_false_iff_ne,ne_eq]
  refine bodyPost_ret (v:= .tuple #[uV (idx units _),.bool (idx units _).isSome]) ?_ rfl ⟨rfl,(by repeat' (first|(with_reducible exact HB.out)|(with_reducible refine Below.setCell ?_ ?_ _)|(with_reducible refine Below.alloc ?_ ?_ _)|(with_reducible refine Below.drew ?_)|(with_reducible refine below_drewN ?_ _)|(with_reducible exact Below.refl _ _)|omega|(simp;done)|(simp;omega)))⟩
  first
   | (simp[results,Tryz.results94,go_sem,uV,idx,units,xe,kr,nY,xz,wS,uF,uM,uA,uD,List.findIdx?_cons];done)
   | simp_all [results,Tryz.results94,go_sem,uV,idx,units,xe,kr,nY,xz,wS,List.findIdx?_cons,Ne.symm]
def ak {α:Type}(w0:World)(b:Nat)(p:Option Addr)(cap qb:Nat)(ts:List Tok)(En mb:Nat)(val:α->Value->World->Prop)(o:Out α)(e:Ending)(w':World):Prop :=
 match o with
 | .ok a r=>∃v k',e = .returned v/\val a v w'/\Kept b w0 w'/\Rd w' b p cap qb ts En mb k'/\r=ts.drop k'
 | .er E q m=>∃k',e = .panicked (gK E (ag ts En q))/\Kept b w0 w'/\Rd w' b p cap qb ts En mb k'/\m=ts.length-k'
section
variable {α:Type} {w w' w0:World} {b cap qb En mb k k':Nat} {p:Option Addr} {ts:List Tok} {val:α->Value->World->Prop}
theorem ak.ok {o:Out α}{a:α}{v:Value}(ho:o = .ok a (ts.drop k'))(hv:val a v w')(h:Sx w0 w' b p cap qb ts En mb k'):ak w0 b p cap qb ts En mb val o (.returned v) w':=by
 subst ho;exact⟨v,k',rfl,hv,h.kp,h.rd,rfl⟩
theorem ak.er {o:Out α}{E:Int}{q m:Nat}{a:Int}(ho:o = .er E q m)(ha:a=ag ts En q)(hm:m=ts.length-k')(h:Sx w0 w' b p cap qb ts En mb k'):ak w0 b p cap qb ts En mb val o (.panicked (gK E a)) w':=by
 subst ho;subst ha;exact⟨k',rfl,h.kp,h.rd,hm⟩
theorem ak.bad {a:Int}(ha:a=ag ts En (ts.length-k))(h:Sx w0 w' b p cap qb ts En mb k):ak w0 b p cap qb ts En mb val (bad (ts.drop k)) (.panicked (gK 10 a)) w':=by
 refine ak.er (E:=10) (q:=ts.length-k) (m:=ts.length-k) ?_ ha rfl h
 unfold Pa.bad;rw[List.length_drop]
theorem uQ (h:(pk ts En k).t≠[]):k<ts.length:=by
 rcases Nat.lt_or_ge k ts.length with z|z
 ·exact z
 ·rw[iI z] at h;exact absurd rfl h
theorem jI (h:(pk ts En k).k≠0):k<ts.length:=by
 rcases Nat.lt_or_ge k ts.length with z|z
 ·exact z
 ·rw[iI z] at h;exact absurd rfl h
end
theorem dB {k n:Nat}(h:k<=n)(hm:n<=1000000):IntKind.i64.wrap ((k:Int)+1)=((k+1:Nat):Int):=zal
section
variable {b cap qb En mb k:Nat} {p:Option Addr} {ts:List Tok}
theorem aA (s:List UInt8)(hs:s≠[])(w:World)(h:Rd w b p cap qb ts En mb k):Calls Tryz.prog 59 #[.pointer (some ⟨b,0,none⟩),.string (bs s)] w fun e w'=>e = .returned (.bool (isW s (ts.drop k)))/\Kept b w w'/\Rd w' b p cap qb ts En mb (if isW s (ts.drop k)=true then k+1 else k):=by
 have KP:=zH (aC w h)
 have S0:=zH (Sx.start h)
 rw[qF (En:=En) h.ok hs]
 have hk1:=dB h.kl h.tk.max
 have hf:=dh
 have HL:Hid ((pk ts En k).t=s->k<ts.length):=fun e=>uQ (En:=En) (by rw[e];exact hs)
 clear h
 generalize pk ts En k=t at *
 obtain⟨tk,ta,tt,tn,td⟩:=t
 unfold fI at KP
 by_cases hx:tt=s
 ·have e1:((bs tt).toList==(bs s).toList)=true:=by rw[hx];simp
  have e2:(tt==s)=true:=by rw[hx];simp
  have hl:=HL.out hx
  rw[e2,if_pos rfl]
  clear e2 HL
  go_enter Tryz.func59,Tryz.ntmps59
  go_wp2_with fail
  refine KP.out.mono ?_
  rintro _ v ⟨rfl,hb⟩
  have S1:=zH (S0.out.bel hb)
  clear hb KP S0
  obtain⟨-,c1,-,-,f1,-,-,-,-,-,-⟩:=S1.out.rd
  go_wp2_with fail
  go_ret
  exact⟨rfl,(S1.out.next hl).kp,(S1.out.next hl).rd⟩
 ·have e1:((bs tt).toList==(bs s).toList)=false:=by rw[AB];simpa using hx
  have e2:(tt==s)=false:=by simpa using hx
  rw[e2,if_neg (by simp)]
  clear e2 HL
  go_enter Tryz.func59,Tryz.ntmps59
  go_wp2_with fail
  refine KP.out.mono ?_
  rintro _ v ⟨rfl,hb⟩
  have S1:=zH (S0.out.bel hb)
  clear hb KP S0
  go_wp2_with fail
  go_ret
  exact⟨rfl,S1.out.kp,S1.out.rd⟩
def vU (_:Unit)(v:Value)(_:World):Prop:=v = .tuple #[]
def vS (x:List UInt8)(v:Value)(_:World):Prop:=v = .string (bs x)
def vI (x:Int)(v:Value)(_:World):Prop:=v = zI zL x
def vN (u:Nat)(v:Value)(_:World):Prop:=v=uV (some u)
theorem dm (s:List UInt8)(hs:s≠[])(w:World)(h:Rd w b p cap qb ts En mb k):Calls Tryz.prog 69 #[.pointer (some ⟨b,0,none⟩),.string (bs s)] w fun e w'=>ak w b p cap qb ts En mb vU (need s (ts.drop k)) e w':=by
 have KP:=zH (aA s hs w h)
 have S0:=zH (Sx.start h)
 clear h
 unfold need
 cases hw:isW s (ts.drop k)
 ·rw[hw] at KP
  rw[if_neg (by simp)] at KP |-
  clear hw
  go_enter Tryz.func69,Tryz.ntmps69
  go_wp2_with fail
  refine KP.out.mono ?_
  rintro _ v ⟨rfl,h1,h2⟩
  have S1:=zH (S0.out.call h1 h2)
  clear h1 h2 KP S0
  exact Dt
 ·rw[hw] at KP
  rw[if_pos rfl] at KP |-
  rw[List.tail_drop]
  clear hw
  go_enter Tryz.func69,Tryz.ntmps69
  go_wp2_with fail
  refine KP.out.mono ?_
  rintro _ v ⟨rfl,h1,h2⟩
  have S1:=zH (S0.out.call h1 h2)
  clear h1 h2 KP S0
  go_wp2_with fail
  go_end0
  exact ak.ok rfl rfl S1.out
end
section
variable {b cap qb En mb k:Nat} {p:Option Addr} {ts:List Tok}
theorem qj (hk:eQ ts):nameO (ts.drop k)=if decide ((pk ts En k).k=1) && !(reserved.contains (pk ts En k).t) then .ok (pk ts En k).t (ts.drop (k+1)) else bad (ts.drop k):=by
 rw[<-zF hk]
 rcases Nat.lt_or_ge k ts.length with z|z
 ·rw[gQ (En:=En) z];rfl
 ·rw[List.drop_eq_nil_of_le z];rfl
theorem xh:ae (ts.drop k)=if (pk ts En k).k=2 then (if (pk ts En k).d=1 then .ok (pk ts En k).n (ts.drop (k+1)) else .er 3 (ts.length-k) (ts.length-k)) else bad (ts.drop k):=by
 rcases Nat.lt_or_ge k ts.length with z|z
 ·have e:ts.length-k=(ts.drop (k+1)).length+1:=by rw[List.length_drop];omega
  rw[e,gQ (En:=En) z];rfl
 ·rw[List.drop_eq_nil_of_le z,iI z];rfl
theorem jr (hk:eQ ts):unitO (ts.drop k)=match idx units (pk ts En k).t with
  | none=>bad (ts.drop k)
  | some u=> .ok u (ts.drop (k+1)):=by
 unfold unitO which
 rw[eZ (En:=En) hk units 0 zah,List.tail_drop]
 cases idx units (pk ts En k).t<;>rfl
structure B4 (w:World) (b:Nat) (x0 x1 x2 x3:Value):Prop where
 c0:w.cell? ⟨b,0,none⟩=some x0
 c1:w.cell? ⟨b,1,none⟩=some x1
 c2:w.cell? ⟨b,2,none⟩=some x2
 c3:w.cell? ⟨b,3,none⟩=some x3
 f0:w.frozen? ⟨b,0,none⟩=false
 f1:w.frozen? ⟨b,1,none⟩=false
 f2:w.frozen? ⟨b,2,none⟩=false
 f3:w.frozen? ⟨b,3,none⟩=false
theorem B4.new (w:World)(x0 x1 x2 x3:Value)(T:Nat):B4 (w.alloc (.cells #[x0,x1,x2,x3] T)) w.heap.size x0 x1 x2 x3:=⟨by simp,by simp,by simp,by simp,by simp,by simp,by simp,by simp⟩
theorem B4.of {w w1:World}{b:Nat}{x0 x1 x2 x3:Value}(h:B4 w b x0 x1 x2 x3)(hb:w1.heap[b]? = w.heap[b]?):B4 w1 b x0 x1 x2 x3:=by
 have c:∀o,w1.cell? ⟨b,o,none⟩=w.cell? ⟨b,o,none⟩:=fun o=>World.cell?_of_block (w:=w) (a:=⟨b,o,none⟩) hb
 have f:∀o,w1.frozen? ⟨b,o,none⟩=w.frozen? ⟨b,o,none⟩:=fun o=>World.frozen?_of_block (w:=w) (a:=⟨b,o,none⟩) hb
 exact⟨(c 0).trans h.c0,(c 1).trans h.c1,(c 2).trans h.c2,(c 3).trans h.c3,(f 0).trans h.f0,(f 1).trans h.f1,(f 2).trans h.f2,(f 3).trans h.f3⟩
theorem B4.bel {w w1:World}{b:Nat}{x0 x1 x2 x3:Value}(h:B4 w b x0 x1 x2 x3)(hB:RowKit.Below w.heap.size w w1):B4 w1 b x0 x1 x2 x3:=h.of (hB.block b (World.block_lt_of_cell? _ _ h.c0))
def kK (k a n d:Int)(t:ByteArray):Obj:= .cells #[zI zL k,zI zL a,.string t,zI zL n,zI zL d] 86
theorem jo (w:World)(h:Rd w b p cap qb ts En mb k):Calls Tryz.prog 76 #[.pointer (some ⟨b,0,none⟩)] w fun e w'=>ak w b p cap qb ts En mb vS (nameO (ts.drop k)) e w':=by
 have KP:=zH (aC w h)
 have S0:=zH (Sx.start h)
 have KR:=zH fP
 have KF:=zH (fun w h=>dI (b:=b) (cap:=cap) (qb:=qb) (En:=En) (mb:=mb) (k:=k) (p:=p) (ts:=ts) w h)
 rw[qj (En:=En) h.ok]
 have hk1:=dB h.kl h.tk.max
 have HL:Hid ((pk ts En k).k=1->k<ts.length):=fun e=>jI (En:=En) (by rw[e];decide)
 clear h
 generalize pk ts En k=t at *
 obtain⟨tk,ta,tt,tn,td⟩:=t
 unfold fI at KP
 by_cases hx:tk=1
 ·have hl:=HL.out hx
  subst hx
  cases hr:reserved.contains tt
  ·have KQ:=zH (fun w=>fP tt w)
   rw[hr] at KQ
   rw[if_pos (by rfl)]
   clear HL hr KR KF
   go_enter Tryz.func76,Tryz.ntmps76
   go_wp2_with fail
   refine KP.out.mono ?_
   rintro _ v ⟨rfl,hb⟩
   have NB:v.heap.size≠b:=zam
   have S1:=zH ((S0.out.bel hb).alloc (kK 1 ta tn td (bs tt)))
   have X:=zH (B5.new v (zI zL 1) (zI zL ta) (.string (bs tt)) (zI zL tn) (zI zL td) 86)
   clear hb KP S0
   unfold kK at S1
   obtain⟨x0,x1,x2,x3,x4,-,-,-,-,-⟩:=X.out
   go_wp2_with fail
   generalize v.alloc (.cells #[zI zL 1,zI zL ta,.string (bs tt),zI zL tn,zI zL td] 86)=v1 at *
   refine(KQ.out _).mono ?_
   rintro _ _ ⟨rfl,rfl⟩
   obtain⟨-,c1,-,-,f1,-,-,-,-,-,-⟩:=S1.out.rd
   go_wp2_with fail
   go_ret
   exact ak.ok rfl rfl (S1.out.next hl)
  ·have KQ:=zH (fun w=>fP tt w)
   rw[hr] at KQ
   rw[if_neg (by simp)]
   clear HL hr KR
   go_enter Tryz.func76,Tryz.ntmps76
   go_wp2_with fail
   refine KP.out.mono ?_
   rintro _ v ⟨rfl,hb⟩
   have NB:v.heap.size≠b:=zam
   have S1:=zH ((S0.out.bel hb).alloc (kK 1 ta tn td (bs tt)))
   have X:=zH (B5.new v (zI zL 1) (zI zL ta) (.string (bs tt)) (zI zL tn) (zI zL td) 86)
   clear hb KP S0
   unfold kK at S1
   obtain⟨x0,x1,x2,x3,x4,-,-,-,-,-⟩:=X.out
   go_wp2_with fail
   generalize v.alloc (.cells #[zI zL 1,zI zL ta,.string (bs tt),zI zL tn,zI zL td] 86)=v1 at *
   refine(KQ.out _).mono ?_
   rintro _ _ ⟨rfl,rfl⟩
   go_wp2_with fail
   refine(KF.out _ S1.out.rd).mono ?_
   rintro _ _ ⟨rfl,hb2⟩
   have S2:=zH (S1.out.bel hb2)
   go_wp2_with fail
   exact aa rfl (ak.bad rfl S2.out)
 ·have e1:(tk==1)=false:=by simpa using hx
  rw[if_neg (by simp[hx])]
  clear HL KR
  go_enter Tryz.func76,Tryz.ntmps76
  exact zz57
theorem eT (w:World)(h:Rd w b p cap qb ts En mb k):Calls Tryz.prog 78 #[.pointer (some ⟨b,0,none⟩)] w fun e w'=>ak w b p cap qb ts En mb vI (ae (ts.drop k)) e w':=by
 have KP:=zH (aC w h)
 have S0:=zH (Sx.start h)
 have KF:=zH (fun w h=>dI (b:=b) (cap:=cap) (qb:=qb) (En:=En) (mb:=mb) (k:=k) (p:=p) (ts:=ts) w h)
 have HO:Hid ((pk ts En k).a=ag ts En (ts.length-k)):=bF h.kl
 rw[xh (En:=En)]
 have hk1:=dB h.kl h.tk.max
 have HL:Hid ((pk ts En k).k=2->k<ts.length):=fun e=>jI (En:=En) (by rw[e];decide)
 clear h
 generalize pk ts En k=t at *
 obtain⟨tk,ta,tt,tn,td⟩:=t
 unfold fI at KP
 by_cases hx:tk=2
 ·have hl:=HL.out hx
  subst hx
  rw[if_pos rfl]
  by_cases hd:td=1
  ·subst hd
   rw[if_pos rfl]
   clear HL KF
   go_enter Tryz.func78,Tryz.ntmps78
   go_wp2_with fail
   refine KP.out.mono ?_
   rintro _ v ⟨rfl,hb⟩
   have NB:v.heap.size≠b:=zam
   have S1:=zH ((S0.out.bel hb).alloc (kK 2 ta tn 1 (bs tt)))
   have X:=zH (B5.new v (zI zL 2) (zI zL ta) (.string (bs tt)) (zI zL tn) (zI zL 1) 86)
   clear hb KP S0
   unfold kK at S1
   obtain⟨x0,x1,x2,x3,x4,-,-,-,-,-⟩:=X.out
   obtain⟨-,c1,-,-,f1,-,-,-,-,-,-⟩:=S1.out.rd
   go_wp2_with fail
   go_ret
   exact ak.ok rfl rfl (S1.out.next hl)
  ·have e1:(td==1)=false:=by simpa using hd
   rw[if_neg hd]
   clear HL KF
   go_enter Tryz.func78,Tryz.ntmps78
   go_wp2_with fail
   refine KP.out.mono ?_
   rintro _ v ⟨rfl,hb⟩
   have NB:v.heap.size≠b:=zam
   have S1:=zH ((S0.out.bel hb).alloc (kK 2 ta tn td (bs tt)))
   have X:=zH (B5.new v (zI zL 2) (zI zL ta) (.string (bs tt)) (zI zL tn) (zI zL td) 86)
   clear hb KP S0
   unfold kK at S1
   obtain⟨x0,x1,x2,x3,x4,-,-,-,-,-⟩:=X.out
   go_wp2_with fail
   generalize v.alloc (.cells #[zI zL 2,zI zL ta,.string (bs tt),zI zL tn,zI zL td] 86)=v1 at *
   refine(lD _ _ _).mono ?_
   rintro _ _ ⟨rfl,rfl⟩
   go_wp2_with fail
   exact aa rfl (ak.er rfl HO.out rfl S1.out)
 ·have e1:(tk==2)=false:=by simpa using hx
  rw[if_neg hx]
  clear HL
  go_enter Tryz.func78,Tryz.ntmps78
  exact zz57
theorem jq (w:World)(h:Rd w b p cap qb ts En mb k):Calls Tryz.prog 77 #[.pointer (some ⟨b,0,none⟩)] w fun e w'=>ak w b p cap qb ts En mb vN (unitO (ts.drop k)) e w':=by
 have hf:=dh
 have KP:=zH (fun w h=>aC (b:=b) (cap:=cap) (qb:=qb) (En:=En) (mb:=mb) (k:=k) (p:=p) (ts:=ts) w h)
 have S0:=zH ((Sx.start h).alloc (.cells #[.bool false,zI zL 0,zI zL 0,zI zL 0] 33))
 have Z0:=zH (B4.new w (.bool false) (zI zL 0) (zI zL 0) (zI zL 0) 33)
 have KF:=zH (fun w h=>dI (b:=b) (cap:=cap) (qb:=qb) (En:=En) (mb:=mb) (k:=k) (p:=p) (ts:=ts) w h)
 rw[jr (En:=En) h.ok]
 have hk1:=dB h.kl h.tk.max
 have HL:Hid ((pk ts En k).t≠[]->k<ts.length):=fun e=>uQ (En:=En) e
 clear h
 generalize pk ts En k=t at *
 obtain⟨tk,ta,tt,tn,td⟩:=t
 have KU:=zH (fun w=>eH tt w)
 unfold fI at KP
 cases hu:idx units tt with
 | none =>
  rw[hu] at KU
  clear HL hu Z0
  go_enter Tryz.func77,Tryz.ntmps77
  go_wp2_with fail
  refine(KP.out _ S0.out.rd).mono ?_
  rintro _ v ⟨rfl,hb⟩
  have S1:=zH (S0.out.bel hb)
  clear hb S0
  go_wp2_with fail
  refine(KU.out _).mono ?_
  rintro _ v2 ⟨rfl,hb⟩
  have S2:=zH ((S1.out.bel hb).alloc (.cells #[.bool false,zI zL 0,zI zL 0,zI zL 0] 33))
  clear hb S1
  unfold uV
  go_wp2_with fail
  refine(KF.out _ S2.out.rd).mono ?_
  rintro _ _ ⟨rfl,hb⟩
  have S3:=zH (S2.out.bel hb)
  go_wp2_with fail
  exact aa rfl (ak.bad rfl S3.out)
 | some u =>
  rw[hu] at KU
  have hl:=HL.out (fun e=>by subst e;cases hu)
  clear HL hu KF
  go_enter Tryz.func77,Tryz.ntmps77
  go_wp2_with fail
  refine(KP.out _ S0.out.rd).mono ?_
  rintro _ v ⟨rfl,hb⟩
  have S1:=zH (S0.out.bel hb)
  replace Z0:=zH (Z0.out.bel hb)
  clear hb S0
  go_wp2_with fail
  refine(KU.out _).mono ?_
  rintro _ v2 ⟨rfl,hb⟩
  have S2:=zH ((S1.out.bel hb).alloc (.cells #[.bool (uF u),zI zL (uM u),zI zL (uA u),zI zL (uD u)] 33))
  replace Z0:=zH ((Z0.out.bel hb).bel ((Below.refl _ _).alloc (Nat.le_refl _) (.cells #[.bool (uF u),zI zL (uM u),zI zL (uA u),zI zL (uD u)] 33)))
  have U0:=zH (B4.new v2 (.bool (uF u)) (zI zL (uM u)) (zI zL (uA u)) (zI zL (uD u)) 33)
  have NB:v2.heap.size≠b:=by have h1:=(S1.out.bel hb).kp.size;have h2:=S1.out.bl;omega
  have NB2:w.heap.size≠b:=by have h2:=S1.out.bl;omega
  clear hb S1
  unfold uV
  obtain⟨-,c1,-,-,f1,-,-,-,-,-,-⟩:=S2.out.rd
  obtain⟨u0,u1,u2,u3,-,-,-,-⟩:=U0.out
  obtain⟨z0,z1,z2,z3,g0,g1,g2,g3⟩:=Z0.out
  go_wp2_with fail
  exact bodyPost_ret (v:=uV (some u)) (by simp[results,Tryz.results77,go_sem,uV,z0,z1,z2,z3]) rfl (ak.ok rfl rfl (((((S2.out.next hl).other (Nat.le_refl _) 0 _).other (Nat.le_refl _) 1 _).other (Nat.le_refl _) 2 _).other (Nat.le_refl _) 3 _))
end
end Go.Proofs.YtnjfolljbfkojaaGreatDoor
namespace Go.Proofs.YtnjfolljbfkojaaGreatDoor
open Go.Value renaming int→zI
open Go.IntKind renaming i64→zL
open Go.Lib renaming hid→zH
open Go.RowKit Lx Pa MapKept
def eO (x:List UInt8):Option (Int×Int×Bool):=(cO.find? fun e=>e.1==x).map (·.2)
def opW:Option (Int×Int×Bool)->Value
 | some (l,o,x)=>opV l o x
 | none=>opV 0 0 false
theorem CO (a b:List UInt8):(bs a==bs b)=(a==b):=by rw[beq_toListBytes,aM,aM]
theorem mJ (x:List UInt8):∀(l:List (List UInt8×Int×Int×Bool)) (i j:Nat),∃q,Instr.findNow .string (.string (bs x)) (oF l i) j=some (((l.find? fun e=>e.1==x).map (·.2)).map fun e=>(q,opV e.1 e.2.1 e.2.2))
 | [],i,j=>⟨0,rfl⟩
 | (s,lv,o,b)::l,i,j=>by
  obtain⟨q,ih⟩:=mJ x l (i+1) (j+1)
  simp only[oF,Instr.findNow,Instr.sameNow,CO,List.find?_cons]
  by_cases h:s=x
  ·subst h;exact⟨j,by simp⟩
  ·have h1:(s==x)=false:=by simpa using h
   have h2:(x==s)=false:=by simpa using Ne.symm h
   rw[h1,h2];exact⟨q,ih⟩
theorem uN:Tryz.prog.underlying 78=some (.map 9 108):=zab
theorem lN:Tryz.prog.underlying 9=some .string:=zab
theorem qJ (x:List UInt8)(mb:Nat)(w:World)(h:w.heap[mb]? = some kP):(Instr.lookup 78 (.map (some mb)) (.string (bs x)) false).run Tryz.prog w = .ok (opW (eO x)) w:=by
 obtain⟨q,hq⟩:=mJ x cO 0 0
 have h':w.heap[mb]? = some (.map (oF cO 0).toArray 14):=h
 have hk:IsKey .string (.string (bs x)):=trivial
 have hf:=run_findKey (w:=w) (l:=(oF cO 0).toArray.toList) lN hq
 have hL:(cO.find? fun e=>e.1==x).map (·.2)=eO x:=rfl
 rw[hL] at hf
 simp only[Instr.lookup,Sem.run_bind,run_underlying uN,Result.andThen,MapKept.run_getObj_map h',Sem.run_pure,run_checkKey lN hk,hf]
 cases eO x with
 | none=>simp[go_sem,opW,opV]
 | some e=>obtain⟨l,o,b⟩:=e;simp[go_sem,opW]
theorem BC (l:List (List UInt8×Int×Int×Bool))(s:List UInt8)(lv op:Int)(x:Bool)(mb:Nat)(w:World)(h:w.heap[mb]? = some (.map (oF l 0).toArray l.length))(hf:l.find? (fun e=>e.1==s)=none) :
  (Instr.mapUpdate 78 (.map (some mb)) (.string (bs s)) (opV lv op x)).run Tryz.prog w = .ok () { w with heap:=w.heap.setIfInBounds mb (.map (oF (l++[(s,lv,op,x)]) 0).toArray (l.length+1)) }:=by
 obtain⟨q,hq⟩:=mJ s l 0 0
 rw[hf] at hq
 have hk:IsKey .string (.string (bs s)):=trivial
 have hg:=run_findKey (P:=Tryz.prog) (w:=w) (kt:=9) (l:=(oF l 0).toArray.toList) lN hq
 have ha:∀(l:List (List UInt8×Int×Int×Bool)) (i:Nat),oF (l++[(s,lv,op,x)]) i=oF l i++[⟨.string (bs s),opV lv op x,i+l.length⟩]:=by
  intro l
  induction l with
  | nil=>intro i;rfl
  | cons e l ih=>intro i;obtain⟨a,b,c,d⟩:=e;simp only[List.cons_append,oF,ih,List.length_cons];rw[show i+1+l.length=i+(l.length+1) from zac]
 rw[ha]
 simp only[Instr.mapUpdate,Sem.run_bind,run_underlying uN,Result.andThen,MapKept.run_getObj_map h,run_checkKey lN hk,hg,Option.map_none,MapKept.run_setObj_map _ h,Nat.zero_add]
 simp
theorem aO (w0:World)(w:World){ops:Array Oper}{rest:List Oper}{o:Oper}{a:Act}{Q:Exit->Act->World->Prop}(hg:o.guard=none)(m v:Operand)(y:Value)(hop:o.op=Op.insert 78 m (.const y) v)
  (l:List (List UInt8×Int×Int×Bool))(s:List UInt8)(lv op:Int)(x:Bool)(hy:y = .string (bs s))(hm:a.eval m = .map (some w0.heap.size))(hv:a.eval v=opV lv op x)
  (h:w.heap[w0.heap.size]? = some (.map (oF l 0).toArray l.length))(hf:l.find? (fun e=>e.1==s)=none)(hB:RowKit.Below w0.heap.size w0 w)
  (hK:∀w',w'.heap[w0.heap.size]? = some (.map (oF (l++[(s,lv,op,x)]) 0).toArray (l++[(s,lv,op,x)]).length)->RowKit.Below w0.heap.size w0 w'->wpList Tryz.prog ops Q rest (a.put o.dst undef) w') :
  wpList Tryz.prog ops Q (o::rest) a w:=by
 refine wpList_plain hg fun K' hK'=>?_
 subst hy
 have hr:=BC l s lv op x w0.heap.size w h hf
 have he:a.eval (.const (.string (bs s))) = .string (bs s):=rfl
 unfold Oper.wp
 simp[execOp,hop,hm,hv,he,hr,Result.andThen]
 obtain⟨h1,h2⟩:=heap_set (o':= .map (oF (l++[(s,lv,op,x)]) 0).toArray (l.length+1)) h
 refine hK' _ _ (hK _ ?_ ?_)
 ·rw[List.length_append];exact h1
 ·exact⟨hB.os,hB.tape,hB.output,by simpa using hB.size,fun k hk=>(h2 k zac).trans (hB.block k hk)⟩
theorem lY (w:World):Calls Tryz.prog 33 #[] w fun e w'=>∃mb,e = .returned (.map (some mb))/\w'.heap[mb]? = some kP/\w.heap.size<=mb/\RowKit.Below w.heap.size w w':=by
 have hmm:=@run_makeMap Tryz.prog
 have H0:(w.alloc (.map #[] 0)).heap[w.heap.size]? = some (.map (oF (cO.take 0) 0).toArray (cO.take 0).length):=by rw[heap_alloc_new];rfl
 have B0:RowKit.Below w.heap.size w (w.alloc (.map #[] 0)):=(Below.refl _ _).alloc (Nat.le_refl _) _
 go_enter Tryz.func33,Tryz.ntmps33
 go_wp2_with (first
  | (refine aO w _ rfl _ _ _ rfl (cO.take 0) kOr 1 14 false rfl rfl rfl H0 zah B0 ?_;intro w1 H1 B1;clear H0 B0)
  | (refine aO w _ rfl _ _ _ rfl (cO.take 1) Ct 2 13 false rfl rfl rfl H1 zah B1 ?_;intro w2 H2 B2;clear H1 B1)
  | (refine aO w _ rfl _ _ _ rfl (cO.take 2) sEq 3 9 false rfl rfl rfl H2 zah B2 ?_;intro w3 H3 B3;clear H2 B2)
  | (refine aO w _ rfl _ _ _ rfl (cO.take 3) sNe 3 10 false rfl rfl rfl H3 zah B3 ?_;intro w4 H4 B4;clear H3 B3)
  | (refine aO w _ rfl _ _ _ rfl (cO.take 4) sLt 3 11 false rfl rfl rfl H4 zah B4 ?_;intro w5 H5 B5;clear H4 B4)
  | (refine aO w _ rfl _ _ _ rfl (cO.take 5) sLe 3 12 false rfl rfl rfl H5 zah B5 ?_;intro w6 H6 B6;clear H5 B5)
  | (refine aO w _ rfl _ _ _ rfl (cO.take 6) sGt 3 11 true rfl rfl rfl H6 zah B6 ?_;intro w7 H7 B7;clear H6 B6)
  | (refine aO w _ rfl _ _ _ rfl (cO.take 7) sGe 3 12 true rfl rfl rfl H7 zah B7 ?_;intro w8 H8 B8;clear H7 B7)
  | (refine aO w _ rfl _ _ _ rfl (cO.take 8) Ey 4 3 false rfl rfl rfl H8 zah B8 ?_;intro w9 H9 B9;clear H8 B8)
  | (refine aO w _ rfl _ _ _ rfl (cO.take 9) EC 4 4 false rfl rfl rfl H9 zah B9 ?_;intro w10 H10 B10;clear H9 B9)
  | (refine aO w _ rfl _ _ _ rfl (cO.take 10) EB 5 5 false rfl rfl rfl H10 zah B10 ?_;intro w11 H11 B11;clear H10 B10)
  | (refine aO w _ rfl _ _ _ rfl (cO.take 11) EH 5 6 false rfl rfl rfl H11 zah B11 ?_;intro w12 H12 B12;clear H11 B11)
  | (refine aO w _ rfl _ _ _ rfl (cO.take 12) gX 6 7 false rfl rfl rfl H12 zah B12 ?_;intro w13 H13 B13;clear H12 B12)
  | (refine aO w _ rfl _ _ _ rfl (cO.take 13) iy 6 8 false rfl rfl rfl H13 zah B13 ?_;intro w14 H14 B14;clear H13 B13))
 go_ret
 exact⟨_,rfl,H14,Nat.le_refl _,B14⟩
end Go.Proofs.YtnjfolljbfkojaaGreatDoor
namespace Go.Proofs.YtnjfolljbfkojaaGreatDoor
open Go.Value renaming int→zI
open Go.IntKind renaming i64→zL
open Go.Lib renaming hid→zH
open Go.RowKit Lx Pa
structure B3 (w:World) (b:Nat) (x0 x1 x2:Value):Prop where
 c0:w.cell? ⟨b,0,none⟩=some x0
 c1:w.cell? ⟨b,1,none⟩=some x1
 c2:w.cell? ⟨b,2,none⟩=some x2
 f0:w.frozen? ⟨b,0,none⟩=false
 f1:w.frozen? ⟨b,1,none⟩=false
 f2:w.frozen? ⟨b,2,none⟩=false
theorem B3.new (w:World)(x0 x1 x2:Value)(T:Nat):B3 (w.alloc (.cells #[x0,x1,x2] T)) w.heap.size x0 x1 x2:=⟨by simp,by simp,by simp,by simp,by simp,by simp⟩
theorem B3.of {w w1:World}{b:Nat}{x0 x1 x2:Value}(h:B3 w b x0 x1 x2)(hb:w1.heap[b]? = w.heap[b]?):B3 w1 b x0 x1 x2:=by
 have c:∀o,w1.cell? ⟨b,o,none⟩=w.cell? ⟨b,o,none⟩:=fun o=>World.cell?_of_block (w:=w) (a:=⟨b,o,none⟩) hb
 have f:∀o,w1.frozen? ⟨b,o,none⟩=w.frozen? ⟨b,o,none⟩:=fun o=>World.frozen?_of_block (w:=w) (a:=⟨b,o,none⟩) hb
 exact⟨(c 0).trans h.c0,(c 1).trans h.c1,(c 2).trans h.c2,(f 0).trans h.f0,(f 1).trans h.f1,(f 2).trans h.f2⟩
theorem B3.bel {w w1:World}{b:Nat}{x0 x1 x2:Value}(h:B3 w b x0 x1 x2)(hB:RowKit.Below w.heap.size w w1):B3 w1 b x0 x1 x2:=h.of (hB.block b (World.block_lt_of_cell? _ _ h.c0))
theorem B3.call {b:Nat}{w w1:World}{x0 x1 x2:Value}{r:Nat}(h:B3 w r x0 x1 x2)(hk:Kept b w w1)(hr:r≠b):B3 w1 r x0 x1 x2:=h.of (hk.block r (World.block_lt_of_cell? _ _ h.c0) hr)
theorem B3.put {w:World}{b:Nat}{x0 x1 x2:Value}(h:B3 w b x0 x1 x2)(y0 y1 y2:Value):B3 (((w.setCell ⟨b,0,none⟩ y0).setCell ⟨b,1,none⟩ y1).setCell ⟨b,2,none⟩ y2) b y0 y1 y2:=by
 obtain⟨c0,c1,c2,f0,f1,f2⟩:=h
 exact⟨by simp[go_sem,c0],by simp[go_sem,c1],by simp[go_sem,c2],zcy,zcz,by simp[World.frozen?_setCell,f2]⟩
theorem B3.other {w:World}{b r:Nat}{x0 x1 x2:Value}(h:B3 w b x0 x1 x2)(hr:b≠r)(o:Nat)(y:Value):B3 (w.setCell ⟨r,o,none⟩ y) b x0 x1 x2:=h.of (Below.heap_setCell _ _ _ _ hr)
def opAt (L:Int)(x:List UInt8):Option (Int×Bool):=match eO x with
 | some (l,o,e)=>if l=L then some (o,e) else none
 | none=>none
section
variable {b cap qb En mb k:Nat} {p:Option Addr} {ts:List Tok}
theorem Cm {ts:List Tok}{En k:Nat}{e:Int×Int×Bool}(h:eO (pk ts En k).t=some e):k<ts.length:=uQ (En:=En) (by
 intro h0
 have e:eO []=none:=zah
 rw[h0,e] at h
 cases h)
theorem lQ (L:Int)(w:World)(h:Rd w b p cap qb ts En mb k)(hL:0<L)(o:Int)(x:Bool)(ho:opAt L (pk ts En k).t=some (o,x)):Calls Tryz.prog 97 #[.pointer (some ⟨b,0,none⟩),zI zL L] w fun e w'=>e = .returned (.tuple #[opV L o x,.bool true])/\Kept b w w'/\Rd w' b p cap qb ts En mb (k+1):=by
 have hf:=dh
 have KP:=zH (fun w h=>aC (b:=b) (cap:=cap) (qb:=qb) (En:=En) (mb:=mb) (k:=k) (p:=p) (ts:=ts) w h)
 have hk1:=dB h.kl h.tk.max
 have hl:k<ts.length:=by
  unfold opAt at ho
  cases hq:eO (pk ts En k).t with
  | none=>rw[hq] at ho;cases ho
  | some e=>exact Cm hq
 generalize pk ts En k=t at *
 obtain⟨tk,ta,tt,tn,td⟩:=t
 have hlk:eO tt=some (L,o,x):=by
  unfold opAt at ho
  cases hq:eO tt with
  | none=>simp only[hq] at ho;cases ho
  | some e =>
   obtain⟨l,o',x'⟩:=e
   simp only[hq] at ho
   split at ho
   ·rename_i e;subst e;cases ho;rfl
   ·cases ho
 have KL:∀w:World,w.heap[mb]? = some kP->(Instr.lookup 78 (.map (some mb)) (.string (bs tt)) false).run Tryz.prog w = .ok (.agg #[zI zL L,zI zL o,.bool x]) w:=fun w hw=>by
  have:=qJ tt mb w hw
  rw[hlk] at this;exact this
 clear ho hlk
 unfold fI at KP
 have S0:=zH ((Sx.start h).alloc (.cells #[zI zL 0,zI zL 0,.bool false] 108))
 have Z0:=zH (B3.new w (zI zL 0) (zI zL 0) (.bool false) 108)
 have NB:w.heap.size≠b:=zbd
 clear h
 go_enter Tryz.func97,Tryz.ntmps97
 go_wp2_with fail
 generalize w.alloc (.cells #[zI zL 0,zI zL 0,.bool false] 108)=v at *
 have hS:v.drew.cell? ⟨b,3,none⟩=some (.map (some mb))/\v.drew.heap[mb]? = some kP/\Sx w v.drew b p cap qb ts En mb k:=⟨S0.out.rd.c3,S0.out.rd.mp,S0.out.drew⟩
 refine wp_region_held (S:=fun w':World=>w'.cell? ⟨b,3,none⟩=some (.map (some mb))/\w'.heap[mb]? = some kP/\Sx w w' b p cap qb ts En mb k) mixed ?_
 change wpAnyH _ _ _ _ _ _ _ _ v.drew
 refine tk0 (v:=?_) zab zab zab (fun _ _ _ h=>h) (Or.inl ⟨by rfl,?_⟩) hS ?_
 rotate_left
 ·(intro w hSw;(try dsimp only at hSw);go_simp;try with_reducible rfl)
 simp only[Act.put,zA,zB,zC]
 refine tk1 (v:=?_) zab zab zab (fun _ _ _ h=>h) (Or.inl ⟨by rfl,?_⟩) hS ?_
 rotate_left
 ·(intro w hSw;(try dsimp only at hSw);go_simp;try with_reducible rfl)
 simp only[Act.put,zA,zB,zC]
 refine tk2 (v:=?_) zab zab zab (fun _ _ _ h=>h) (Or.inl ⟨by rfl,?_⟩) hS ?_
 rotate_left
 ·(intro w hSw;(try dsimp only at hSw);go_simp;try with_reducible rfl)
 simp only[Act.put,zA,zB,zC]
 refine tk3 (v:=?_) zab zab zab (fun _ _ _ h=>h) (Or.inl ⟨by rfl,?_⟩) hS ?_
 rotate_left
 ·(intro w hSw;(try dsimp only at hSw);go_simp;try with_reducible rfl)
 simp only[Act.put,zA,zB,zC]
 refine tk4 (v:=?_) zab zab zab (fun _ _ _ h=>h) (Or.inl ⟨by rfl,?_⟩) hS ?_
 rotate_left
 ·(intro w hSw;(try dsimp only at hSw);go_simp;try with_reducible rfl)
 simp only[Act.put,zA,zB,zC]
 refine wpAnyH_ready (rs:=[5]) zab (by simp) (st5 (fun K hK=>?_) AllReadyH.nil)
 go_simp
 refine(KP.out _ S0.out.drew.rd).mono ?_
 rintro _ v1 ⟨rfl,hb⟩
 have S1:=zH (S0.out.drew.bel hb)
 have Z1:=zH ((Z0.out.bel (Below.refl _ _).drew).bel hb)
 go_wp2_with fail
 refine hK.out _ _ ?_ (fun hHeld=>?_)
 ·exact⟨S1.out.rd.c3,S1.out.rd.mp,S1.out⟩
 clear hK K
 try simp only[Act.put,zA,zB,zC]
 refine tk6 (v:=?_) zab zab zab (fun _ _ _ h=>h) (Or.inl ⟨by rfl,?_⟩) hHeld ?_
 rotate_left
 ·(intro w hSw;(try dsimp only at hSw);go_simp;try with_reducible rfl)
 simp only[Act.put,zA,zB,zC]
 refine tk7 (v:=?_) zab zab zab (fun _ _ _ h=>h) (Or.inl ⟨by rfl,?_⟩) hHeld ?_
 rotate_left
 ·(intro w hSw;(try dsimp only at hSw);go_simp;try with_reducible rfl)
 simp only[Act.put,zA,zB,zC]
 obtain⟨z0,z1,z2,g0,g1,g2⟩:=Z1.out
 refine wpAnyH_ready (rs:=[8]) zab (by simp) (st8 (fun K hK=>?_) AllReadyH.nil)
 go_simp
 have S2:=zH (((S1.out.other (Nat.le_refl _) 0 (zI zL L)).other (Nat.le_refl _) 1 (zI zL o)).other (Nat.le_refl _) 2 (.bool x))
 refine hK.out _ _ ?_ (fun hHeld=>?_)
 ·exact⟨S2.out.rd.c3,S2.out.rd.mp,S2.out⟩
 clear hK K
 try simp only[Act.put,zA,zB,zC]
 refine wpAnyH_done zab ?_ _
 have Z2:=zH (Z1.out.put (zI zL L) (zI zL o) (.bool x))
 clear z0 z1 z2 g0 g1 g2 hHeld
 generalize (((v1.setCell ⟨w.heap.size,0,none⟩ (zI zL L)).setCell ⟨w.heap.size,1,none⟩ (zI zL o)).setCell ⟨w.heap.size,2,none⟩ (.bool x))=v2 at *
 obtain⟨-,c1,-,-,f1,-,-,-,-,-,-⟩:=S2.out.rd
 obtain⟨z0,z1,z2,g0,g1,g2⟩:=Z2.out
 go_wp2_with fail
 exact bodyPost_ret (v:= .tuple #[opV L o x,.bool true]) (by simp[results,Tryz.results97,go_sem,opV,z0,z1,z2]) rfl ⟨rfl,((((S2.out.next hl).other (Nat.le_refl _) 0 _).other (Nat.le_refl _) 1 _).other (Nat.le_refl _) 2 _).kp,((((S2.out.next hl).other (Nat.le_refl _) 0 _).other (Nat.le_refl _) 1 _).other (Nat.le_refl _) 2 _).rd⟩
theorem oO (L:Int)(w:World)(h:Rd w b p cap qb ts En mb k)(hL:0<L)(ho:opAt L (pk ts En k).t=none):Calls Tryz.prog 97 #[.pointer (some ⟨b,0,none⟩),zI zL L] w fun e w'=>e = .returned (.tuple #[opV 0 0 false,.bool false])/\Kept b w w'/\Rd w' b p cap qb ts En mb k:=by
 have hf:=dh
 have KP:=zH (fun w h=>aC (b:=b) (cap:=cap) (qb:=qb) (En:=En) (mb:=mb) (k:=k) (p:=p) (ts:=ts) w h)
 generalize pk ts En k=t at *
 obtain⟨tk,ta,tt,tn,td⟩:=t
 obtain⟨l,o,x,hlk,hn⟩:∃l o x,opW (eO tt)=opV l o x/\l≠L:=by
  unfold opAt at ho
  cases hq:eO tt with
  | none=>exact⟨0,0,false,rfl,zac⟩
  | some e =>
   obtain⟨l,o,x⟩:=e
   simp only[hq] at ho
   split at ho
   ·cases ho
   ·rename_i e;exact⟨l,o,x,rfl,e⟩
 have hn2:(l==L)=false:=by simpa using hn
 have KL:∀w:World,w.heap[mb]? = some kP->(Instr.lookup 78 (.map (some mb)) (.string (bs tt)) false).run Tryz.prog w = .ok (.agg #[zI zL l,zI zL o,.bool x]) w:=fun w hw=>by
  have:=qJ tt mb w hw
  rw[hlk] at this;exact this
 clear ho hlk
 unfold fI at KP
 have S0:=zH ((Sx.start h).alloc (.cells #[zI zL 0,zI zL 0,.bool false] 108))
 have Z0:=zH (B3.new w (zI zL 0) (zI zL 0) (.bool false) 108)
 have NB:w.heap.size≠b:=zbd
 clear h
 go_enter Tryz.func97,Tryz.ntmps97
 go_wp2_with fail
 generalize w.alloc (.cells #[zI zL 0,zI zL 0,.bool false] 108)=v at *
 have hS:v.drew.cell? ⟨b,3,none⟩=some (.map (some mb))/\v.drew.heap[mb]? = some kP/\Sx w v.drew b p cap qb ts En mb k:=⟨S0.out.rd.c3,S0.out.rd.mp,S0.out.drew⟩
 refine wp_region_held (S:=fun w':World=>w'.cell? ⟨b,3,none⟩=some (.map (some mb))/\w'.heap[mb]? = some kP/\Sx w w' b p cap qb ts En mb k) mixed ?_
 change wpAnyH _ _ _ _ _ _ _ _ v.drew
 refine tk0 (v:=?_) zab zab zab (fun _ _ _ h=>h) (Or.inl ⟨by rfl,?_⟩) hS ?_
 rotate_left
 ·(intro w hSw;(try dsimp only at hSw);go_simp;try with_reducible rfl)
 simp only[Act.put,zA,zB,zC]
 refine tk1 (v:=?_) zab zab zab (fun _ _ _ h=>h) (Or.inl ⟨by rfl,?_⟩) hS ?_
 rotate_left
 ·(intro w hSw;(try dsimp only at hSw);go_simp;try with_reducible rfl)
 simp only[Act.put,zA,zB,zC]
 refine tk2 (v:=?_) zab zab zab (fun _ _ _ h=>h) (Or.inl ⟨by rfl,?_⟩) hS ?_
 rotate_left
 ·(intro w hSw;(try dsimp only at hSw);go_simp;try with_reducible rfl)
 simp only[Act.put,zA,zB,zC]
 refine tk3 (v:=?_) zab zab zab (fun _ _ _ h=>h) (Or.inl ⟨by rfl,?_⟩) hS ?_
 rotate_left
 ·(intro w hSw;(try dsimp only at hSw);go_simp;try with_reducible rfl)
 simp only[Act.put,zA,zB,zC]
 refine tk4 (v:=?_) zab zab zab (fun _ _ _ h=>h) (Or.inl ⟨by rfl,?_⟩) hS ?_
 rotate_left
 ·(intro w hSw;(try dsimp only at hSw);go_simp;try with_reducible rfl)
 simp only[Act.put,zA,zB,zC]
 refine wpAnyH_ready (rs:=[5]) zab (by simp) (st5 (fun K hK=>?_) AllReadyH.nil)
 go_simp
 refine(KP.out _ S0.out.drew.rd).mono ?_
 rintro _ v1 ⟨rfl,hb⟩
 have S1:=zH (S0.out.drew.bel hb)
 have Z1:=zH ((Z0.out.bel (Below.refl _ _).drew).bel hb)
 go_wp2_with fail
 refine hK.out _ _ ?_ (fun hHeld=>?_)
 ·exact⟨S1.out.rd.c3,S1.out.rd.mp,S1.out⟩
 clear hK K
 try simp only[Act.put,zA,zB,zC]
 refine tk6 (v:=?_) zab zab zab (fun _ _ _ h=>h) (Or.inl ⟨by rfl,?_⟩) hHeld ?_
 rotate_left
 ·(intro w hSw;(try dsimp only at hSw);go_simp;try with_reducible rfl)
 simp only[Act.put,zA,zB,zC]
 refine tk7 (v:=?_) zab zab zab (fun _ _ _ h=>h) (Or.inl ⟨by rfl,?_⟩) hHeld ?_
 rotate_left
 ·(intro w hSw;(try dsimp only at hSw);go_simp;try with_reducible rfl)
 simp only[Act.put,zA,zB,zC]
 obtain⟨z0,z1,z2,g0,g1,g2⟩:=Z1.out
 refine wpAnyH_ready (rs:=[8]) zab (by simp) (st8 (fun K hK=>?_) AllReadyH.nil)
 go_simp
 have S2:=zH (((S1.out.other (Nat.le_refl _) 0 (zI zL l)).other (Nat.le_refl _) 1 (zI zL o)).other (Nat.le_refl _) 2 (.bool x))
 refine hK.out _ _ ?_ (fun hHeld=>?_)
 ·exact⟨S2.out.rd.c3,S2.out.rd.mp,S2.out⟩
 clear hK K
 try simp only[Act.put,zA,zB,zC]
 refine wpAnyH_done zab ?_ _
 have Z2:=zH (Z1.out.put (zI zL l) (zI zL o) (.bool x))
 clear z0 z1 z2 g0 g1 g2 hHeld
 generalize (((v1.setCell ⟨w.heap.size,0,none⟩ (zI zL l)).setCell ⟨w.heap.size,1,none⟩ (zI zL o)).setCell ⟨w.heap.size,2,none⟩ (.bool x))=v2 at *
 obtain⟨z0,z1,z2,g0,g1,g2⟩:=Z2.out
 go_wp2_with fail
 exact bodyPost_ret (v:= .tuple #[opV 0 0 false,.bool false]) (by simp[results,Tryz.results97,go_sem,opV,z0,z1,z2]) rfl ⟨rfl,(((S2.out.other (Nat.le_refl _) 0 _).other (Nat.le_refl _) 1 _).other (Nat.le_refl _) 2 _).kp,(((S2.out.other (Nat.le_refl _) 0 _).other (Nat.le_refl _) 1 _).other (Nat.le_refl _) 2 _).rd⟩
end
theorem ze {w:World}{o:Obj}{n:Nat}(h:n=w.heap.size):(w.alloc o).heap[n]? = some o:=by subst h;exact heap_alloc_new w o
theorem Bd (A:Nat->Prop)(ofs:Nat->Int)(L o:Int)(pl:Nat)(t1 t2:Tree)(x y:NV)(w:World)(hx:NodeA w A ofs t1 x)(hy:NodeA w A ofs t2 y)(hlo:∀b,w.heap.size<=b->A b) :
  Calls Tryz.prog 98 #[opV L o false,zI zL (ofs pl),nv x,nv y] w fun e w'=>∃z,e = .returned (nv z)/\NodeA w' A ofs (.mk o pl [] 0 0 1 [t1,t2]) z/\RowKit.Below w.heap.size w w':=by
 have HX:=zH hx
 have HY:=zH hy
 have HR:=zH (Below.refl w.heap.size w)
 obtain⟨at0,hat⟩:∃z,z=ofs pl:=⟨_,rfl⟩
 rw[<-hat]
 have HAT:=zH hat
 clear hat hx hy
 obtain⟨xo,xa,xs,xn,xd,xf,xm,xr,xy,xq,xk,xc⟩:=x
 obtain⟨yo,ya,ys,yn,yd,yf,ym,yr,yy,yq,yk,yc⟩:=y
 unfold nv opV
 go_enter Tryz.func98,Tryz.ntmps98
 go_wp2_with fail
 refine bodyPost_ret (v:= .agg #[zI zL o,zI zL at0,.string ⟨#[]⟩,zI zL 0,zI zL 0,.bool false,zI zL 0,zI zL 0,zI zL 0,.slice (some ⟨w.heap.size+1+1+1+1,0,none⟩) 2 2]) (by simp[results,Tryz.results98,go_sem]) rfl ⟨⟨o,at0,⟨#[]⟩,0,0,false,0,0,0,some ⟨w.heap.size+1+1+1+1,0,none⟩,2,2⟩,rfl,?_,zaf⟩
 have hb:∀w',RowKit.Below w.heap.size w w'->w'.heap[w.heap.size+1+1+1+1]? = some (.cells ([⟨xo,xa,xs,xn,xd,xf,xm,xr,xy,xq,xk,xc⟩,⟨yo,ya,ys,yn,yd,yf,ym,yr,yy,yq,yk,yc⟩].flatMap NV.cells).toArray 36)->NodeA w' A ofs (.mk o pl [] 0 0 1 [t1,t2]) ⟨o,at0,⟨#[]⟩,0,0,false,0,0,0,some ⟨w.heap.size+1+1+1+1,0,none⟩,2,2⟩:=fun w' hB hw=>by
  rw[HAT.out]
  refine dX [t1,t2] [⟨xo,xa,xs,xn,xd,xf,xm,xr,xy,xq,xk,xc⟩,⟨yo,ya,ys,yn,yd,yf,ym,yr,yy,yq,yk,yc⟩] o pl 2 rfl (hlo _ zac) (fun i h h'=>?_) hw
  match i,h with
  | 0,_=>exact NodeA.bel hB _ _ HX.out
  | 1,_=>exact NodeA.bel hB _ _ HY.out
 exact zz87
theorem xK (A:Nat->Prop)(ofs:Nat->Int)(L o:Int)(pl:Nat)(t1 t2:Tree)(x y:NV)(w:World)(hx:NodeA w A ofs t1 x)(hy:NodeA w A ofs t2 y)(hlo:∀b,w.heap.size<=b->A b) :
  Calls Tryz.prog 98 #[opV L o true,zI zL (ofs pl),nv x,nv y] w fun e w'=>∃z,e = .returned (nv z)/\NodeA w' A ofs (.mk o pl [] 0 0 1 [t2,t1]) z/\RowKit.Below w.heap.size w w':=by
 have HX:=zH hx
 have HY:=zH hy
 have HR:=zH (Below.refl w.heap.size w)
 obtain⟨at0,hat⟩:∃z,z=ofs pl:=⟨_,rfl⟩
 rw[<-hat]
 have HAT:=zH hat
 clear hat hx hy
 obtain⟨xo,xa,xs,xn,xd,xf,xm,xr,xy,xq,xk,xc⟩:=x
 obtain⟨yo,ya,ys,yn,yd,yf,ym,yr,yy,yq,yk,yc⟩:=y
 unfold nv opV
 go_enter Tryz.func98,Tryz.ntmps98
 go_wp2_with fail
 refine bodyPost_ret (v:= .agg #[zI zL o,zI zL at0,.string ⟨#[]⟩,zI zL 0,zI zL 0,.bool false,zI zL 0,zI zL 0,zI zL 0,.slice (some ⟨w.heap.size+1+1+1+1,0,none⟩) 2 2]) (by simp[results,Tryz.results98,go_sem]) rfl ⟨⟨o,at0,⟨#[]⟩,0,0,false,0,0,0,some ⟨w.heap.size+1+1+1+1,0,none⟩,2,2⟩,rfl,?_,zaf⟩
 have hb:∀w',RowKit.Below w.heap.size w w'->w'.heap[w.heap.size+1+1+1+1]? = some (.cells ([⟨yo,ya,ys,yn,yd,yf,ym,yr,yy,yq,yk,yc⟩,⟨xo,xa,xs,xn,xd,xf,xm,xr,xy,xq,xk,xc⟩].flatMap NV.cells).toArray 36)->NodeA w' A ofs (.mk o pl [] 0 0 1 [t2,t1]) ⟨o,at0,⟨#[]⟩,0,0,false,0,0,0,some ⟨w.heap.size+1+1+1+1,0,none⟩,2,2⟩:=fun w' hB hw=>by
  rw[HAT.out]
  refine dX [t2,t1] [⟨yo,ya,ys,yn,yd,yf,ym,yr,yy,yq,yk,yc⟩,⟨xo,xa,xs,xn,xd,xf,xm,xr,xy,xq,xk,xc⟩] o pl 2 rfl (hlo _ zac) (fun i h h'=>?_) hw
  match i,h with
  | 0,_=>exact NodeA.bel hB _ _ HY.out
  | 1,_=>exact NodeA.bel hB _ _ HX.out
 exact zz87
theorem lM (A:Nat->Prop)(ofs:Nat->Int)(L o:Int)(ex:Bool)(pl:Nat)(t1 t2:Tree)(x y:NV)(w:World)(hx:NodeA w A ofs t1 x)(hy:NodeA w A ofs t2 y)(hlo:∀b,w.heap.size<=b->A b) :
  Calls Tryz.prog 98 #[opV L o ex,zI zL (ofs pl),nv x,nv y] w fun e w'=>∃z,e = .returned (nv z)/\NodeA w' A ofs (.mk o pl [] 0 0 1 (if ex=true then [t2,t1] else [t1,t2])) z/\RowKit.Below w.heap.size w w':=by
 cases ex
 ·exact Bd A ofs L o pl t1 t2 x y w hx hy hlo
 ·exact xK A ofs L o pl t1 t2 x y w hx hy hlo
end Go.Proofs.YtnjfolljbfkojaaGreatDoor
