import Derived.Test.YtnjfolljbfkojaaGreatDoorMAN
set_option maxRecDepth 100000
set_option maxHeartbeats 20000000
namespace Go.Proofs.YtnjfolljbfkojaaGreatDoor
open Go.Value renaming int→zI
open Go.IntKind renaming i64→zL
open Go.Lib renaming hid→zH
open Go.RowKit Lx
theorem BN (l:List UInt8):Lib.hasPrefix l [61]=decide (l.head? = some 61):=by
 unfold Lib.hasPrefix
 cases l with
 | nil=>rfl
 | cons c l =>
  simp only[List.isPrefixOf,List.head?_cons,Option.some.injEq,Bool.and_true]
  rw[Bool.eq_iff_iff,beq_iff_eq,decide_eq_true_eq]
  exact eq_comm
theorem Fq {d:UInt8}(h:(d.toNat:Int)=61):d.toNat=61:=zac
theorem Du {c:UInt8}(l:List UInt8)(h33:c.toNat≠33)(h60:c.toNat≠60)(h62:c.toNat≠62):sgn (c::l)=if zS c=true then 1 else 0:=by
 simp only[sgn];rw[if_neg h33,if_neg zac]
theorem Dc {c:UInt8}(l:List UInt8)(h:c.toNat=33):sgn (c::l)=if decide (l.head? = some 61)=true then 2 else 0:=by
 simp only[sgn,decide_eq_true_eq];rw[if_pos h]
theorem FB {c:UInt8}(l:List UInt8)(h:c.toNat=60\/c.toNat=62):sgn (c::l)=if decide (l.head? = some 61)=true then 2 else 1:=by
 simp only[sgn,decide_eq_true_eq];rw[if_neg zac,if_pos h]
theorem gM (s:ByteArray)(c:UInt8)(r:List UInt8)(w:World)(hl:s.data.toList=c::r)(hs:s.size<=281474976710656) :
  Calls Tryz.prog 102 #[.string s] w fun e w'=>e = .returned (zI zL (sgn (c::r):Nat))/\w'=w:=by
 have hsz:s.size=r.length+1:=by rw[<-ay,hl];rfl
 have h0:0<s.size:=zac
 have hget:s[0]=c:=by rw[bS s 0 h0,hl];rfl
 have KP:Hid (∀w:World,Calls Tryz.prog 113 #[.string (s.extract 1 s.size),.string ⟨#[61]⟩] w fun e w'=>e = .returned (.bool (decide (r.head? = some 61)))/\w'=w):=fun w=>by
  have h:=Tryz.strings_HasPrefix (s.extract 1 s.size) ⟨#[61]⟩ w
  rw[Lib.extract_to_end,hl] at h
  show Calls _ _ _ _ _
  rw[<-BN];exact h
 have h1z:(1:Int)<=(s.size:Int):=zac
 have hn:∀h,(s[0]'h).toNat=c.toNat:=fun h=>by rw[<-hget]
 have HG:Hid (s[0].toNat=c.toNat):=hn h0
 obtain⟨R,hR⟩:∃R,R=sgn (c::r):=⟨_,rfl⟩
 rw[<-hR]
 have hd:Hid (if c.toNat=33 then R=(if decide (r.head? = some 61)=true then 2 else 0) else if c.toNat=60\/c.toNat=62 then R=(if decide (r.head? = some 61)=true then 2 else 1) else R=if zS c=true then 1 else 0):=by
  show ite _ _ _
  exact Dx
 have hS:Hid (zS c=[123,125,40,41,59,44,58,43,45,42,47,61].contains c.toNat):=rfl
 clear hR hl hget hn
 generalize decide (r.head? = some 61)=q at *
 generalize zS c=S at *
 generalize c.toNat=n at *
 by_cases h33:n=33
 ·subst h33
  cases q
  ·have HR:Hid (R=0):=by have:=hd.out;show _=_;simpa using this
   exact CP
  ·have HR:Hid (R=2):=by have:=hd.out;show _=_;simpa using this
   exact CP
 by_cases h60:n=60
 ·subst h60
  cases q
  ·have HR:Hid (R=1):=by have:=hd.out;show _=_;simpa using this
   exact Ec
  ·have HR:Hid (R=2):=by have:=hd.out;show _=_;simpa using this
   exact Ec
 by_cases h62:n=62
 ·subst h62
  cases q
  ·have HR:Hid (R=1):=by have:=hd.out;show _=_;simpa using this
   exact Da
  ·have HR:Hid (R=2):=by have:=hd.out;show _=_;simpa using this
   exact Da
 by_cases h123:n=123
 ·subst h123
  have HR:Hid (R=1):=zav
  have e33:=zE s[0] 33 false zag
  have e60:=zE s[0] 60 false zag
  have e62:=zE s[0] 62 false zag
  have e123:=zE s[0] 123 true zag
  have e125:=zE s[0] 125 false zag
  exact DJ
 by_cases h125:n=125
 ·subst h125
  have HR:Hid (R=1):=zav
  have e33:=zE s[0] 33 false zag
  have e60:=zE s[0] 60 false zag
  have e62:=zE s[0] 62 false zag
  have e123:=zE s[0] 123 false zag
  have e125:=zE s[0] 125 true zag
  exact DJ
 by_cases h40:n=40
 ·subst h40
  have HR:Hid (R=1):=zav
  have e33:=zE s[0] 33 false zag
  have e60:=zE s[0] 60 false zag
  have e62:=zE s[0] 62 false zag
  have e123:=zE s[0] 123 false zag
  have e125:=zE s[0] 125 false zag
  have e40:=zE s[0] 40 true zag
  have e41:=zE s[0] 41 false zag
  have e59:=zE s[0] 59 false zag
  exact zz8
 by_cases h41:n=41
 ·subst h41
  have HR:Hid (R=1):=zav
  have e33:=zE s[0] 33 false zag
  have e60:=zE s[0] 60 false zag
  have e62:=zE s[0] 62 false zag
  have e123:=zE s[0] 123 false zag
  have e125:=zE s[0] 125 false zag
  have e40:=zE s[0] 40 false zag
  have e41:=zE s[0] 41 true zag
  have e59:=zE s[0] 59 false zag
  exact zz8
 by_cases h59:n=59
 ·subst h59
  have HR:Hid (R=1):=zav
  have e33:=zE s[0] 33 false zag
  have e60:=zE s[0] 60 false zag
  have e62:=zE s[0] 62 false zag
  have e123:=zE s[0] 123 false zag
  have e125:=zE s[0] 125 false zag
  have e40:=zE s[0] 40 false zag
  have e41:=zE s[0] 41 false zag
  have e59:=zE s[0] 59 true zag
  exact zz8
 by_cases h44:n=44
 ·subst h44
  have HR:Hid (R=1):=zav
  have e33:=zE s[0] 33 false zag
  have e60:=zE s[0] 60 false zag
  have e62:=zE s[0] 62 false zag
  have e123:=zE s[0] 123 false zag
  have e125:=zE s[0] 125 false zag
  have e40:=zE s[0] 40 false zag
  have e41:=zE s[0] 41 false zag
  have e59:=zE s[0] 59 false zag
  have e44:=zE s[0] 44 true zag
  have e58:=zE s[0] 58 false zag
  exact zz13
 by_cases h58:n=58
 ·subst h58
  have HR:Hid (R=1):=zav
  have e33:=zE s[0] 33 false zag
  have e60:=zE s[0] 60 false zag
  have e62:=zE s[0] 62 false zag
  have e123:=zE s[0] 123 false zag
  have e125:=zE s[0] 125 false zag
  have e40:=zE s[0] 40 false zag
  have e41:=zE s[0] 41 false zag
  have e59:=zE s[0] 59 false zag
  have e44:=zE s[0] 44 false zag
  have e58:=zE s[0] 58 true zag
  exact zz13
 by_cases h43:n=43
 ·subst h43
  have HR:Hid (R=1):=zav
  have e33:=zE s[0] 33 false zag
  have e60:=zE s[0] 60 false zag
  have e62:=zE s[0] 62 false zag
  have e123:=zE s[0] 123 false zag
  have e125:=zE s[0] 125 false zag
  have e40:=zE s[0] 40 false zag
  have e41:=zE s[0] 41 false zag
  have e59:=zE s[0] 59 false zag
  have e44:=zE s[0] 44 false zag
  have e58:=zE s[0] 58 false zag
  have e43:=zE s[0] 43 true zag
  have e45:=zE s[0] 45 false zag
  exact zz21
 by_cases h45:n=45
 ·subst h45
  have HR:Hid (R=1):=zav
  have e33:=zE s[0] 33 false zag
  have e60:=zE s[0] 60 false zag
  have e62:=zE s[0] 62 false zag
  have e123:=zE s[0] 123 false zag
  have e125:=zE s[0] 125 false zag
  have e40:=zE s[0] 40 false zag
  have e41:=zE s[0] 41 false zag
  have e59:=zE s[0] 59 false zag
  have e44:=zE s[0] 44 false zag
  have e58:=zE s[0] 58 false zag
  have e43:=zE s[0] 43 false zag
  have e45:=zE s[0] 45 true zag
  exact zz21
 by_cases h42:n=42
 ·subst h42
  have HR:Hid (R=1):=zav
  have e33:=zE s[0] 33 false zag
  have e60:=zE s[0] 60 false zag
  have e62:=zE s[0] 62 false zag
  have e123:=zE s[0] 123 false zag
  have e125:=zE s[0] 125 false zag
  have e40:=zE s[0] 40 false zag
  have e41:=zE s[0] 41 false zag
  have e59:=zE s[0] 59 false zag
  have e44:=zE s[0] 44 false zag
  have e58:=zE s[0] 58 false zag
  have e43:=zE s[0] 43 false zag
  have e45:=zE s[0] 45 false zag
  have e42:=zE s[0] 42 true zag
  have e47:=zE s[0] 47 false zag
  exact zz26
 by_cases h47:n=47
 ·subst h47
  have HR:Hid (R=1):=zav
  have e33:=zE s[0] 33 false zag
  have e60:=zE s[0] 60 false zag
  have e62:=zE s[0] 62 false zag
  have e123:=zE s[0] 123 false zag
  have e125:=zE s[0] 125 false zag
  have e40:=zE s[0] 40 false zag
  have e41:=zE s[0] 41 false zag
  have e59:=zE s[0] 59 false zag
  have e44:=zE s[0] 44 false zag
  have e58:=zE s[0] 58 false zag
  have e43:=zE s[0] 43 false zag
  have e45:=zE s[0] 45 false zag
  have e42:=zE s[0] 42 false zag
  have e47:=zE s[0] 47 true zag
  exact zz26
 by_cases h61:n=61
 ·subst h61
  have HR:Hid (R=1):=zav
  have e33:=zE s[0] 33 false zag
  have e60:=zE s[0] 60 false zag
  have e62:=zE s[0] 62 false zag
  have e123:=zE s[0] 123 false zag
  have e125:=zE s[0] 125 false zag
  have e40:=zE s[0] 40 false zag
  have e41:=zE s[0] 41 false zag
  have e59:=zE s[0] 59 false zag
  have e44:=zE s[0] 44 false zag
  have e58:=zE s[0] 58 false zag
  have e43:=zE s[0] 43 false zag
  have e45:=zE s[0] 45 false zag
  have e42:=zE s[0] 42 false zag
  have e47:=zE s[0] 47 false zag
  have e61:=zE s[0] 61 true zag
  exact zz30
 have HR:Hid (R=0):=zcl
 have e33:=zE s[0] 33 false zaj
 have e60:=zE s[0] 60 false zaj
 have e62:=zE s[0] 62 false zaj
 have e123:=zE s[0] 123 false zaj
 have e125:=zE s[0] 125 false zaj
 have e40:=zE s[0] 40 false zaj
 have e41:=zE s[0] 41 false zaj
 have e59:=zE s[0] 59 false zaj
 have e44:=zE s[0] 44 false zaj
 have e58:=zE s[0] 58 false zaj
 have e43:=zE s[0] 43 false zaj
 have e45:=zE s[0] 45 false zaj
 have e42:=zE s[0] 42 false zaj
 have e47:=zE s[0] 47 false zaj
 have e61:=zE s[0] 61 false zaj
 exact zz30
end Go.Proofs.YtnjfolljbfkojaaGreatDoor
namespace Go.Proofs.YtnjfolljbfkojaaGreatDoor
open Go.Value renaming int→zI
open Go.IntKind renaming i64→zL
open Go.Lib renaming hid→zH
open Go.RowKit Lx Pa
theorem nk (M:Int->Int->Int×Int×Int)(ts:List Tok)(p:Option Addr)(b off cap n k En:Nat)(O:Int)(w:World)(hS:SlT w p b off n ts)(hwf:Wf ts)(hkt:k<ts.length)(hW:isN (ts.drop k)=false)(hA:isA (ts.drop k)=true) :
  Calls Tryz.prog 71 #[.agg #[.slice p n cap,zI zL k,zI zL En,zI zL 0,zI zL O]] w fun e w'=>Post w ts p n cap En O (factor M (rd M .ex) (ts.drop k)) e w':=by
 have hmx:=hS.max
 have hl:=hS.ln
 have hE:factor M (rd M .ex) (ts.drop k) = .ok (.mk 2 (n-k) ts[k].t 0 0 1 []) (ts.drop (k+1)):=by
  rw[qz hkt] at hW
  rw[List.drop_eq_getElem_cons hkt] at hA |-
  simp only[factor]
  rw[if_neg (by simpa using hW),if_pos hA,List.length_drop]
  congr 2;omega
 have hlen:n-(ts.drop (k+1)).length=k+1:=zbn
 have KO:=zH (fun w hS=>aj ts p b off cap n k En 0 O w hS zac)
 have KN:=zH (fun w hS=>bR ts p b off cap n k En O w hS)
 rw[hW] at KN
 have KA:=zH (fun w hS=>bZ ts p b off cap n k En O w hS hwf)
 rw[hA] at KA
 have hk1:IntKind.i64.wrap ((k:Int)+1)=((k+1:Nat):Int):=zal
 have hk2:IntKind.i64.wrap (((k+1:Nat):Int)-1)=(k:Int):=zcd
 have hk3:IntKind.i64.wrap (k:Int)=(k:Int):=IntWalk.i64_in _ zac
 have hz:(k:Int)<(n:Int):=zac
 have hbw:=hS.lt zac
 have hne:w.heap.size+1≠b:=zac
 have hne2:w.heap.size+2≠b:=zac
 have hp:=hS.ptr zac
 have HC:=zH (fun v (h:RowKit.Below w.heap.size w v)=>(hS.bel h).cells k hkt)
 have HS:=zH hS
 rw[hE]
 have HP:Hid (∀w',RowKit.Below w.heap.size w w'->Post w ts p n cap En O (.ok (.mk 2 (n-k) ts[k].t 0 0 1 []) (ts.drop (k+1))) (.returned (.tuple #[.agg #[zI zL 2,zI zL (ag ts En (n-k)),.string (bs ts[k].t),zI zL 0,zI zL 0,.bool false,zI zL 0,zI zL 0,zI zL 0,.slice none 0 0],.agg #[.slice p n cap,zI zL ((k:Int)+1),zI zL En,zI zL 0,zI zL O]])) w'):=fun w' hb =>
  ⟨⟨2,ag ts En (n-k),bs ts[k].t,0,0,false,0,0,0,none,0,0⟩,by show _=Ending.returned (.tuple #[_,.agg #[_,zI zL ((n-(ts.drop (k+1)).length:Nat):Int),_,_,_]]);rw[hlen];rfl,fun u hu=>by cases hu;exact bP w' w.heap.size (ag ts En) 2 (n-k) ts[k].t 0 0 1,hb⟩
 generalize ag ts En (n-k)=at0 at *
 generalize ts[k]=t at *
 obtain⟨tk,ta,tt,tn,td⟩:=t
 generalize ts.drop (k+1)=r at *
 clear hE hlen hW hA hS hwf
 subst hp
 obtain⟨W3,hW3⟩:∃W3,W3=((w.alloc (.cells #[.slice (some ⟨b,off,none⟩) n cap,zI zL k,zI zL En,zI zL 0,zI zL O] 62)).alloc (.cells #[zI zL 0,zI zL 0,.string ⟨#[]⟩,zI zL 0,zI zL 0,.bool false,zI zL 0,zI zL 0,zI zL 0,.slice none 0 0] 36)).alloc (.cells #[.slice none 0 0,zI zL 0,zI zL 0,zI zL 0,zI zL 0] 62):=⟨_,rfl⟩
 have F:=zH (Fr.new w (some ⟨b,off,none⟩) n cap k En 0 O 62 36)
 rw[<-hW3] at F
 go_enter Tryz.func71,Tryz.ntmps71
 go_wp2_with fail
 rw[<-hW3]
 clear hW3
 refine(KO.out _ (HS.out.bel F.out.B)).mono ?_
 rintro _ v1 ⟨rfl,hb⟩
 replace F:=zH (F.out.bel hb)
 clear hb
 obtain⟨c0,c1,c2,c3,c4,f0,f1,f2,f3,f4⟩:=F.out.A
 go_wp2_with fail
 refine(KN.out _ (HS.out.bel F.out.B)).mono ?_
 rintro _ v2 ⟨rfl,hb⟩
 replace F:=zH (F.out.bel hb)
 clear hb c0 c1 c2 c3 c4 f0 f1 f2 f3 f4
 obtain⟨c0,c1,c2,c3,c4,f0,f1,f2,f3,f4⟩:=F.out.A
 go_wp2_with fail
 refine(KA.out _ (HS.out.bel F.out.B)).mono ?_
 rintro _ v3 ⟨rfl,hb⟩
 replace F:=zH (F.out.bel hb)
 clear hb c0 c1 c2 c3 c4 f0 f1 f2 f3 f4
 obtain⟨c0,c1,c2,c3,c4,f0,f1,f2,f3,f4⟩:=F.out.A
 go_wp2_with fail
 replace F:=zH (F.out.inc ((k:Int)+1))
 clear c0 c1 c2 c3 c4 f0 f1 f2 f3 f4
 generalize v3.setCell ⟨w.heap.size,1,none⟩ (zI zL ((k:Int)+1))=V at *
 obtain⟨c0,c1,c2,c3,c4,-,-,-,-,-⟩:=F.out.A
 obtain⟨n0,n1,n2,n3,n4,n5,n6,n7,n8,n9,m0,m1,m2,m3,m4,m5,m6,m7,m8,m9⟩:=F.out.N
 obtain⟨e0,e1,e2,e3,e4,g0,g1,g2,g3,g4⟩:=F.out.R
 obtain⟨a0,a1,a2,a3,a4⟩:=HC.out V F.out.B
 have BV:=zH F.out.B
 have hS:(V.drew.cell? ⟨w.heap.size,0,none⟩=some (.slice (some ⟨b,off,none⟩) n cap)/\V.drew.cell? ⟨w.heap.size,1,none⟩=some (zI zL ((k:Int)+1))/\V.drew.cell? ⟨w.heap.size,2,none⟩=some (zI zL En)/\V.drew.cell? ⟨w.heap.size,3,none⟩=some (zI zL 0)/\V.drew.cell? ⟨w.heap.size,4,none⟩=some (zI zL O))/\V.drew.cell? ⟨b,off+k*5+2,none⟩=some (.string (bs tt)):=⟨⟨c0,c1,c2,c3,c4⟩,a2⟩
 refine wp_region_held (S:=(fun w':World=>(w'.cell? ⟨w.heap.size,0,none⟩=some (.slice (some ⟨b,off,none⟩) n cap)/\w'.cell? ⟨w.heap.size,1,none⟩=some (zI zL ((k:Int)+1))/\w'.cell? ⟨w.heap.size,2,none⟩=some (zI zL En)/\w'.cell? ⟨w.heap.size,3,none⟩=some (zI zL 0)/\w'.cell? ⟨w.heap.size,4,none⟩=some (zI zL O))/\w'.cell? ⟨b,off+k*5+2,none⟩=some (.string (bs tt)))) mixed ?_
 change wpAnyH _ _ _ _ _ _ _ _ V.drew
 refine tk0 (v:=?_) zab zab zab (fun _ _ _ h=>h) (Or.inl ⟨by rfl,?_⟩) hS ?_
 rotate_left
 ·(intro w hSw;(try dsimp only at hSw);go_simp;try with_reducible rfl)
 simp only[Act.put,zA,zB,zC]
 refine tk1 (v:=?_) zab zab zab (fun _ _ _ h=>h) (Or.inl ⟨by rfl,?_⟩) hS ?_
 rotate_left
 ·(intro w hSw;(try dsimp only at hSw);go_simp;try with_reducible rfl)
 simp only[Act.put,zA,zB,zC]
 refine tk2 (v:=?_) zab zab zab (fun _ _ _ h=>h) (Or.inl ⟨by rfl,?_⟩) hS ?_
 rotate_left
 ·(intro w hSw;(try dsimp only at hSw);go_simp;try with_reducible rfl)
 simp only[Act.put,zA,zB,zC]
 refine tk3 (v:=?_) zab zab zab (fun _ _ _ h=>h) (Or.inl ⟨by rfl,?_⟩) hS ?_
 rotate_left
 ·(intro w hSw;(try dsimp only at hSw);go_simp;try with_reducible rfl)
 simp only[Act.put,zA,zB,zC]
 refine tk4 (v:=?_) zab zab zab (fun _ _ _ h=>h) (Or.inl ⟨by rfl,?_⟩) hS ?_
 rotate_left
 ·(intro w hSw;(try dsimp only at hSw);go_simp;try with_reducible rfl)
 simp only[Act.put,zA,zB,zC]
 refine tk5 (v:=?_) zab zab zab (fun _ _ _ h=>h) (Or.inl ⟨by rfl,?_⟩) hS ?_
 rotate_left
 ·(intro w hSw;(try dsimp only at hSw);go_simp;try with_reducible rfl)
 simp only[Act.put,zA,zB,zC]
 refine tk6 (v:=?_) zab zab zab (fun _ _ _ h=>h) (Or.inl ⟨by rfl,?_⟩) hS ?_
 rotate_left
 ·(intro w hSw;(try dsimp only at hSw);go_simp;try with_reducible rfl)
 simp only[Act.put,zA,zB,zC]
 refine tk7 (v:=?_) zab zab zab (fun _ _ _ h=>h) (Or.inl ⟨by rfl,?_⟩) hS ?_
 rotate_left
 ·(intro w hSw;(try dsimp only at hSw);go_simp;try with_reducible rfl)
 simp only[Act.put,zA,zB,zC]
 refine tk8 (v:=?_) zab zab zab (fun _ _ _ h=>h) (Or.inl ⟨by rfl,?_⟩) hS ?_
 rotate_left
 ·(intro w hSw;(try dsimp only at hSw);go_simp;try with_reducible rfl)
 simp only[Act.put,zA,zB,zC]
 refine tk9 (v:=?_) zab zab zab (fun _ _ _ h=>h) (Or.inl ⟨by rfl,?_⟩) hS ?_
 rotate_left
 ·(intro w hSw;(try dsimp only at hSw);go_simp;try with_reducible rfl)
 simp only[Act.put,zA,zB,zC]
 refine Cs (v:=?_) zab zab zab (fun _ _ _ h=>h) (Or.inl ⟨by rfl,?_⟩) hS ?_
 rotate_left
 ·(intro w hSw;(try dsimp only at hSw);go_simp;try with_reducible rfl)
 simp only[Act.put,zA,zB,zC]
 refine wpAnyH_ready (rs:=[11]) zab (by simp) (EU (fun K hK=>?_) AllReadyH.nil)
 go_simp
 refine hK.out _ _ ?_ (fun hHeld=>?_)
 ·exact(by refine⟨⟨?_,?_,?_,?_,?_⟩,?_⟩<;>simp[go_sem,c0,c1,c2,c3,c4,a2])
 clear hK K
 try simp only[Act.put,zA,zB,zC]
 refine wpAnyH_ready (rs:=[12]) zab (by simp) (Am (fun K hK=>?_) AllReadyH.nil)
 go_simp
 refine hK.out _ _ ?_ (fun hHeld=>?_)
 ·exact(by refine⟨⟨?_,?_,?_,?_,?_⟩,?_⟩<;>simp[go_sem,c0,c1,c2,c3,c4,a2])
 clear hK K
 try simp only[Act.put,zA,zB,zC]
 refine wpAnyH_done zab ?_ _
 go_wp2_with fail
 exact bodyPost_ret (v:= .tuple #[.agg #[zI zL 2,zI zL at0,.string (bs tt),zI zL 0,zI zL 0,.bool false,zI zL 0,zI zL 0,zI zL 0,.slice none 0 0],.agg #[.slice (some ⟨b,off,none⟩) n cap,zI zL ((k:Int)+1),zI zL En,zI zL 0,zI zL O]]) zap rfl (HP.out _ zae)
theorem wU {l:List Tok}{o:Nat}(h:which [gX,iy] l=some o):o<2:=by
 unfold which whichI whichI whichI at h
 split at h
 ·cases h;decide
 ·split at h
  ·cases h;decide
  ·cases h
theorem rX (M:Int->Int->Int×Int×Int)(ts:List Tok)(p:Option Addr)(b off cap n k En:Nat)(O:Int)(w:World)(hS:SlT w p b off n ts)(hwf:Wf ts)(hk:k<n)(o:Nat)(h1:isN (ts.drop k)=false)(h2:isA (ts.drop k)=false)(h3:isW bB (ts.drop k)=false)(h4:isW sLp (ts.drop k)=false)(h5:which [gX,iy] (ts.drop k)=some o)
  (KX:∀σ:Sg,σ.k<=n->k<σ.k->XpC M ts p b off cap n En σ) :
  Calls Tryz.prog 71 #[.agg #[.slice p n cap,zI zL (k:Nat),zI zL En,zI zL 0,zI zL O]] w fun e w'=>bO w ts p n cap En (((Sg.mk k 0 O).run ts En (factor M (rd M .ex))).k:Nat) ((Sg.mk k 0 O).run ts En (factor M (rd M .ex))).E ((Sg.mk k 0 O).run ts En (factor M (rd M .ex))).O ((Sg.mk k 0 O).val ts (factor M (rd M .ex))) e w':=by
 have hl:=hS.ln
 have hmx:=hS.max
 have ho:=wU h5
 obtain⟨σ1,σ2,σ3,σ4,x1,x2,x3,x4,x5,⟨g0,g1,g1',g2,g2',g3,g3',g4,g4'⟩,hU⟩:=Db (M:=M) (En:=En) k o O zac h1 h2 h3 h4 h5
 have q1:Hid (∀w1,SlT w1 p b off n ts->_):=fun w1 hS1=>bL (En:=En) (cap:=cap) sLp ⟨k+1,0,O⟩ w1 hS1 (by show k+1<=n;omega)
 have q2:Hid (∀w1,SlT w1 p b off n ts->_):=KX σ1 zac zac
 have q3:Hid (∀w1,SlT w1 p b off n ts->_):=fun w1 hS1=>bL (En:=En) (cap:=cap) sCm σ2 w1 hS1 zac
 have q4:Hid (∀w1,SlT w1 p b off n ts->_):=KX σ3 zac zac
 have q5:Hid (∀w1,SlT w1 p b off n ts->_):=fun w1 hS1=>bL (En:=En) (cap:=cap) sRp σ4 w1 hS1 zac
 rw[<-x1] at q1
 rw[<-x2] at q2
 rw[<-x3] at q3
 rw[<-x4] at q4
 rw[<-x5] at q5
 rw[hl] at hU
 obtain⟨σ5,e5⟩:∃σ,σ=(Sg.mk k 0 O).run ts En (factor M (rd M .ex)):=⟨_,rfl⟩
 obtain⟨t0,e0⟩:∃t,t=(Sg.mk k 0 O).val ts (factor M (rd M .ex)):=⟨_,rfl⟩
 obtain⟨ta,ea⟩:∃t,t=σ1.val ts (rd M .ex):=⟨_,rfl⟩
 obtain⟨tb,eb⟩:∃t,t=σ3.val ts (rd M .ex):=⟨_,rfl⟩
 rw[<-ea] at q2
 rw[<-eb] at q4
 rw[<-e5] at q5
 rw[<-e0,<-ea,<-eb] at hU
 rw[<-e5,<-e0]
 have KO:=zH (fun w hS=>aj ts p b off cap n k En 0 O w hS zac)
 have KN:=zH (fun w hS=>bR ts p b off cap n k En O w hS)
 rw[h1] at KN
 have KA:=zH (fun w hS=>bZ ts p b off cap n k En O w hS hwf)
 rw[h2] at KA
 have KT:=zH (fun w hS=>bE bB ts p b off cap n k En O w hS)
 rw[h3] at KT
 have KL:=zH (fun w hS=>bE sLp ts p b off cap n k En O w hS)
 rw[h4] at KL
 have KW:Hid (∀w p2 b2,SlT w p b off n ts->SlS w p2 b2 0 2 [gX,iy]->Calls Tryz.prog 42 #[.agg #[.slice p n cap,zI zL (k:Nat),zI zL En,zI zL 0,zI zL O],.slice p2 2 2] w fun e w'=>e = .returned (zI zL (o:Nat))/\RowKit.Below w.heap.size w w'):=fun w p2 b2 hS hL=>by
  have:=bM [gX,iy] ts p p2 b off cap n k b2 0 2 2 En O w hS hL
  rw[h5] at this
  exact this
 have hk1:IntKind.i64.wrap ((k:Int)+1)=((k+1:Nat):Int):=zal
 have ho1:¬(o:Int)<0:=zac
 have ho2:IntKind.i64.wrap (7+(o:Int))=7+(o:Int):=IntWalk.i64_in _ zac
 have HS:=zH hS
 have HU:=zH hU
 clear x1 x2 x3 x4 x5 e5 e0 ea eb hU h1 h2 h3 h4 h5 hS hwf KX g0 g1 g1' g2 g2' g3 g3' g4 g4'
 obtain⟨k1,E1,O1⟩:=σ1
 obtain⟨k2,E2,O2⟩:=σ2
 obtain⟨k3,E3,O3⟩:=σ3
 obtain⟨k4,E4,O4⟩:=σ4
 obtain⟨k5,E5,O5⟩:=σ5
 simp only at q1 q2 q3 q4 q5
 obtain⟨at0,hat⟩:∃a,a=ag ts En (n-k):=⟨_,rfl⟩
 rw[<-hat] at KO
 have HAT:=zH hat
 clear hat
 obtain⟨W3,hW3⟩:∃W3,W3=((w.alloc (.cells #[.slice p n cap,zI zL (k:Nat),zI zL En,zI zL 0,zI zL O] 62)).alloc (.cells #[zI zL 0,zI zL 0,.string ⟨#[]⟩,zI zL 0,zI zL 0,.bool false,zI zL 0,zI zL 0,zI zL 0,.slice none 0 0] 36)).alloc (.cells #[.slice none 0 0,zI zL 0,zI zL 0,zI zL 0,zI zL 0] 62):=⟨_,rfl⟩
 have F:=zH (Fr.new w p n cap (k:Nat) En 0 O 62 36)
 rw[<-hW3] at F
 go_enter Tryz.func71,Tryz.ntmps71
 go_wp2_with fail
 rw[<-hW3]
 clear hW3
 refine(KO.out _ (HS.out.bel F.out.B)).mono ?_
 rintro _ v1 ⟨rfl,hb⟩
 replace F:=zH (F.out.bel hb)
 clear hb
 obtain⟨c0,c1,c2,c3,c4,f0,f1,f2,f3,f4⟩:=F.out.A
 go_wp2_with fail
 refine(KN.out _ (HS.out.bel F.out.B)).mono ?_
 rintro _ v2 ⟨rfl,hb⟩
 replace F:=zH (F.out.bel hb)
 clear c0 c1 c2 c3 c4 f0 f1 f2 f3 f4
 clear hb
 obtain⟨c0,c1,c2,c3,c4,f0,f1,f2,f3,f4⟩:=F.out.A
 go_wp2_with fail
 refine(KA.out _ (HS.out.bel F.out.B)).mono ?_
 rintro _ v3 ⟨rfl,hb⟩
 replace F:=zH (F.out.bel hb)
 clear c0 c1 c2 c3 c4 f0 f1 f2 f3 f4
 clear hb
 obtain⟨c0,c1,c2,c3,c4,f0,f1,f2,f3,f4⟩:=F.out.A
 go_wp2_with fail
 refine(KT.out _ (HS.out.bel F.out.B)).mono ?_
 rintro _ v4 ⟨rfl,hb⟩
 replace F:=zH (F.out.bel hb)
 clear c0 c1 c2 c3 c4 f0 f1 f2 f3 f4
 clear hb
 obtain⟨c0,c1,c2,c3,c4,f0,f1,f2,f3,f4⟩:=F.out.A
 go_wp2_with fail
 refine(KL.out _ (HS.out.bel F.out.B)).mono ?_
 rintro _ v5 ⟨rfl,hb⟩
 replace F:=zH (F.out.bel hb)
 clear c0 c1 c2 c3 c4 f0 f1 f2 f3 f4
 clear hb
 obtain⟨c0,c1,c2,c3,c4,f0,f1,f2,f3,f4⟩:=F.out.A
 go_wp2_with fail
 have HL:=zH (iO v5 [gX,iy] 9 zah)
 replace F:=zH (F.out.bel ((Below.refl v5.heap.size v5).alloc (Nat.le_refl _) (.cells #[.string { data:=#[109,105,110] },.string { data:=#[109,97,120] }] 9)))
 refine(KW.out _ _ _ (HS.out.bel F.out.B) HL.out).mono ?_
 rintro _ v6 ⟨rfl,hb⟩
 replace F:=zH (F.out.bel hb)
 clear c0 c1 c2 c3 c4 f0 f1 f2 f3 f4
 clear hb
 obtain⟨c0,c1,c2,c3,c4,f0,f1,f2,f3,f4⟩:=F.out.A
 go_wp2_with fail
 replace F:=zH (F.out.inc ((k:Int)+1))
 clear c0 c1 c2 c3 c4 f0 f1 f2 f3 f4
 generalize v6.setCell ⟨w.heap.size,1,none⟩ (zI zL ((k:Int)+1))=V0 at *
 obtain⟨c0,c1,c2,c3,c4,f0,f1,f2,f3,f4⟩:=F.out.A
 refine(q1.out _ (HS.out.bel F.out.B)).mono ?_
 rintro _ v7 ⟨rfl,hb⟩
 have hsnv7:=hb.size
 replace F:=zH (F.out.bel hb)
 clear hb c0 c1 c2 c3 c4 f0 f1 f2 f3 f4
 obtain⟨c0,c1,c2,c3,c4,f0,f1,f2,f3,f4⟩:=F.out.A
 go_wp2_with fail
 obtain⟨hF,hK⟩:=F.out.put2 (k1:Nat) E1 O1
 replace F:=zH hF
 have hskv7:=hK.size
 clear hF hK c0 c1 c2 c3 c4 f0 f1 f2 f3 f4
 generalize (((((v7.setCell ⟨w.heap.size,0,none⟩ (.slice p n cap)).setCell ⟨w.heap.size,1,none⟩ (zI zL (k1:Nat))).setCell ⟨w.heap.size,2,none⟩ (zI zL En)).setCell ⟨w.heap.size,3,none⟩ (zI zL E1)).setCell ⟨w.heap.size,4,none⟩ (zI zL O1))=V1 at *
 obtain⟨c0,c1,c2,c3,c4,f0,f1,f2,f3,f4⟩:=F.out.A
 have lox:=World.block_lt_of_cell? _ _ F.out.R.c0
 refine(q2.out _ (HS.out.bel F.out.B)).mono ?_
 rintro _ v8 ⟨⟨xo,xa,xs,xn,xd,xf,xm,xr,xy,xq,xk,xc⟩,rfl,hn,hb⟩
 have hsx:=hb.size
 replace F:=zH (F.out.bel hb)
 have Nx:=zH hn
 clear hb hn c0 c1 c2 c3 c4 f0 f1 f2 f3 f4
 obtain⟨c0,c1,c2,c3,c4,f0,f1,f2,f3,f4⟩:=F.out.A
 have hvx:=World.block_lt_of_cell? _ _ c0
 go_wp2_with fail
 obtain⟨hF,hK,hX⟩:=F.out.node (zI zL xo) (zI zL xa) (.string xs) (zI zL xn) (zI zL xd) (.bool xf) (zI zL xm) (zI zL xr) (zI zL xy) (.slice xq xk xc) 36 (k2:Nat) E2 O2
 replace F:=zH hF
 have Xx:=zH hX
 replace Nx:=zH (fun u hu=>ah.kept hK zac _ _ (Nx.out u hu))
 have hsx':=hK.size
 clear hF hK hX c0 c1 c2 c3 c4 f0 f1 f2 f3 f4
 generalize ((((((v8.setCell ⟨w.heap.size,0,none⟩ (.slice p n cap)).setCell ⟨w.heap.size,1,none⟩ (zI zL (k2:Nat))).setCell ⟨w.heap.size,2,none⟩ (zI zL En)).setCell ⟨w.heap.size,3,none⟩ (zI zL E2)).setCell ⟨w.heap.size,4,none⟩ (zI zL O2)).alloc (.cells #[zI zL xo,zI zL xa,.string xs,zI zL xn,zI zL xd,.bool xf,zI zL xm,zI zL xr,zI zL xy,.slice xq xk xc] 36))=V2 at *
 generalize v8.heap.size=blx at *
 obtain⟨c0,c1,c2,c3,c4,f0,f1,f2,f3,f4⟩:=F.out.A
 refine(q3.out _ (HS.out.bel F.out.B)).mono ?_
 rintro _ v9 ⟨rfl,hb⟩
 have hsnv9:=hb.size
 replace F:=zH (F.out.bel hb)
 replace Nx:=zH (fun u hu=>ah.bel hb _ _ (Nx.out u hu))
 replace Xx:=zH (Xx.out.bel hb)
 clear hb c0 c1 c2 c3 c4 f0 f1 f2 f3 f4
 obtain⟨c0,c1,c2,c3,c4,f0,f1,f2,f3,f4⟩:=F.out.A
 go_wp2_with fail
 obtain⟨hF,hK⟩:=F.out.put2 (k3:Nat) E3 O3
 replace F:=zH hF
 replace Nx:=zH (fun u hu=>ah.kept hK zac _ _ (Nx.out u hu))
 replace Xx:=zH (Xx.out.kept hK zac)
 have hskv9:=hK.size
 clear hF hK c0 c1 c2 c3 c4 f0 f1 f2 f3 f4
 generalize (((((v9.setCell ⟨w.heap.size,0,none⟩ (.slice p n cap)).setCell ⟨w.heap.size,1,none⟩ (zI zL (k3:Nat))).setCell ⟨w.heap.size,2,none⟩ (zI zL En)).setCell ⟨w.heap.size,3,none⟩ (zI zL E3)).setCell ⟨w.heap.size,4,none⟩ (zI zL O3))=V3 at *
 obtain⟨c0,c1,c2,c3,c4,f0,f1,f2,f3,f4⟩:=F.out.A
 have loy:=World.block_lt_of_cell? _ _ F.out.R.c0
 refine(q4.out _ (HS.out.bel F.out.B)).mono ?_
 rintro _ va ⟨⟨yo,ya,ys,yn,yd,yf,ym,yr,yy,yq,yk,yc⟩,rfl,hn,hb⟩
 have hsy:=hb.size
 replace F:=zH (F.out.bel hb)
 have Ny:=zH hn
 replace Nx:=zH (fun u hu=>ah.bel hb _ _ (Nx.out u hu))
 replace Xx:=zH (Xx.out.bel hb)
 clear hb hn c0 c1 c2 c3 c4 f0 f1 f2 f3 f4
 obtain⟨c0,c1,c2,c3,c4,f0,f1,f2,f3,f4⟩:=F.out.A
 have hvy:=World.block_lt_of_cell? _ _ c0
 go_wp2_with fail
 obtain⟨hF,hK,hX⟩:=F.out.node (zI zL yo) (zI zL ya) (.string ys) (zI zL yn) (zI zL yd) (.bool yf) (zI zL ym) (zI zL yr) (zI zL yy) (.slice yq yk yc) 36 (k4:Nat) E4 O4
 replace F:=zH hF
 have Xy:=zH hX
 replace Ny:=zH (fun u hu=>ah.kept hK zac _ _ (Ny.out u hu))
 replace Nx:=zH (fun u hu=>ah.kept hK zac _ _ (Nx.out u hu))
 replace Xx:=zH (Xx.out.kept hK zac)
 have hsy':=hK.size
 clear hF hK hX c0 c1 c2 c3 c4 f0 f1 f2 f3 f4
 generalize ((((((va.setCell ⟨w.heap.size,0,none⟩ (.slice p n cap)).setCell ⟨w.heap.size,1,none⟩ (zI zL (k4:Nat))).setCell ⟨w.heap.size,2,none⟩ (zI zL En)).setCell ⟨w.heap.size,3,none⟩ (zI zL E4)).setCell ⟨w.heap.size,4,none⟩ (zI zL O4)).alloc (.cells #[zI zL yo,zI zL ya,.string ys,zI zL yn,zI zL yd,.bool yf,zI zL ym,zI zL yr,zI zL yy,.slice yq yk yc] 36))=V4 at *
 generalize va.heap.size=bly at *
 obtain⟨c0,c1,c2,c3,c4,f0,f1,f2,f3,f4⟩:=F.out.A
 refine(q5.out _ (HS.out.bel F.out.B)).mono ?_
 rintro _ vb ⟨rfl,hb⟩
 have hsnvb:=hb.size
 replace F:=zH (F.out.bel hb)
 replace Nx:=zH (fun u hu=>ah.bel hb _ _ (Nx.out u hu))
 replace Xx:=zH (Xx.out.bel hb)
 replace Ny:=zH (fun u hu=>ah.bel hb _ _ (Ny.out u hu))
 replace Xy:=zH (Xy.out.bel hb)
 clear hb c0 c1 c2 c3 c4 f0 f1 f2 f3 f4
 obtain⟨c0,c1,c2,c3,c4,f0,f1,f2,f3,f4⟩:=F.out.A
 go_wp2_with fail
 obtain⟨hF,hK⟩:=F.out.put2 (k5:Nat) E5 O5
 replace F:=zH hF
 replace Nx:=zH (fun u hu=>ah.kept hK zac _ _ (Nx.out u hu))
 replace Xx:=zH (Xx.out.kept hK zac)
 replace Ny:=zH (fun u hu=>ah.kept hK zac _ _ (Ny.out u hu))
 replace Xy:=zH (Xy.out.kept hK zac)
 have hskvb:=hK.size
 clear hF hK c0 c1 c2 c3 c4 f0 f1 f2 f3 f4
 generalize (((((vb.setCell ⟨w.heap.size,0,none⟩ (.slice p n cap)).setCell ⟨w.heap.size,1,none⟩ (zI zL (k5:Nat))).setCell ⟨w.heap.size,2,none⟩ (zI zL En)).setCell ⟨w.heap.size,3,none⟩ (zI zL E5)).setCell ⟨w.heap.size,4,none⟩ (zI zL O5))=V5 at *
 obtain⟨c0,c1,c2,c3,c4,f0,f1,f2,f3,f4⟩:=F.out.A
 have hS:Hid (B10 V5.drew blx (zI zL xo) (zI zL xa) (.string xs) (zI zL xn) (zI zL xd) (.bool xf) (zI zL xm) (zI zL xr) (zI zL xy) (.slice xq xk xc)/\B10 V5.drew bly (zI zL yo) (zI zL ya) (.string ys) (zI zL yn) (zI zL yd) (.bool yf) (zI zL ym) (zI zL yr) (zI zL yy) (.slice yq yk yc)/\B5 V5.drew w.heap.size (.slice p n cap) (zI zL (k5:Nat)) (zI zL En) (zI zL E5) (zI zL O5)):=⟨Xx.out.bel (Below.refl _ _).drew,Xy.out.bel (Below.refl _ _).drew,F.out.A.bel (Below.refl _ _).drew⟩
 refine wp_region_held (S:=fun w':World=>Hid (B10 w' blx (zI zL xo) (zI zL xa) (.string xs) (zI zL xn) (zI zL xd) (.bool xf) (zI zL xm) (zI zL xr) (zI zL xy) (.slice xq xk xc)/\B10 w' bly (zI zL yo) (zI zL ya) (.string ys) (zI zL yn) (zI zL yd) (.bool yf) (zI zL ym) (zI zL yr) (zI zL yy) (.slice yq yk yc)/\B5 w' w.heap.size (.slice p n cap) (zI zL (k5:Nat)) (zI zL En) (zI zL E5) (zI zL O5))) mixed ?_
 change wpAnyH _ _ _ _ _ _ _ _ V5.drew
 refine tk0 (v:= zI zL (o:Nat)) zab zab zab (fun _ _ _ h=>h) (Or.inl ⟨zab,?_⟩) hS ?_
 ·intro w' hSw
  go_simp;try with_reducible rfl
 simp only[Act.put,zA,zB,zC]
 refine tk1 (v:= zI zL (7+(o:Int))) zab zab zab (fun _ _ _ h=>h) (Or.inl ⟨zab,?_⟩) hS ?_
 ·intro w' hSw
  go_simp;try with_reducible rfl
 simp only[Act.put,zA,zB,zC]
 refine tk2 (v:= zI zL at0) zab zab zab (fun _ _ _ h=>h) (Or.inl ⟨zab,?_⟩) hS ?_
 ·intro w' hSw
  go_simp;try with_reducible rfl
 simp only[Act.put,zA,zB,zC]
 refine tk3 (v:= .agg #[zI zL xo,zI zL xa,.string xs,zI zL xn,zI zL xd,.bool xf,zI zL xm,zI zL xr,zI zL xy,.slice xq xk xc]) zab zab zab (fun _ _ _ h=>h) (Or.inl ⟨zab,?_⟩) hS ?_
 ·exact Cy
 simp only[Act.put,zA,zB,zC]
 refine tk4 (v:= .agg #[zI zL yo,zI zL ya,.string ys,zI zL yn,zI zL yd,.bool yf,zI zL ym,zI zL yr,zI zL yy,.slice yq yk yc]) zab zab zab (fun _ _ _ h=>h) (Or.inl ⟨zab,?_⟩) hS ?_
 ·exact EJ
 simp only[Act.put,zA,zB,zC]
 refine tk7 (v:= .agg #[.slice p n cap,zI zL (k5:Nat),zI zL En,zI zL E5,zI zL O5]) zab zab zab (fun _ _ _ h=>h) (Or.inl ⟨zab,?_⟩) hS ?_
 ·intro w' hSw
  exact aY rfl rfl (aS _ 5 zab zab w' w.heap.size _ rfl hSw.out.2.2.row)
 simp only[Act.put,zA,zB,zC]
 refine wpAnyH_ready (rs:=[5]) zab (by simp) (st5 (fun K hK=>?_) AllReadyH.nil)
 go_simp
 have hb4:=((Below.refl V5.heap.size V5).alloc (Nat.le_refl _) (.cells #[zI zL xo,zI zL xa,.string xs,zI zL xn,zI zL xd,.bool xf,zI zL xm,zI zL xr,zI zL xy,.slice xq xk xc,zI zL yo,zI zL ya,.string ys,zI zL yn,zI zL yd,.bool yf,zI zL ym,zI zL yr,zI zL yy,.slice yq yk yc] 36)).drew
 have HK4:Hid (Kfr (w.heap.size+3) (V5.alloc (.cells #[zI zL xo,zI zL xa,.string xs,zI zL xn,zI zL xd,.bool xf,zI zL xm,zI zL xr,zI zL xy,.slice xq xk xc,zI zL yo,zI zL ya,.string ys,zI zL yn,zI zL yd,.bool yf,zI zL ym,zI zL yr,zI zL yy,.slice yq yk yc] 36)) (V5.alloc (.cells #[zI zL xo,zI zL xa,.string xs,zI zL xn,zI zL xd,.bool xf,zI zL xm,zI zL xr,zI zL xy,.slice xq xk xc,zI zL yo,zI zL ya,.string ys,zI zL yn,zI zL yd,.bool yf,zI zL ym,zI zL yr,zI zL yy,.slice yq yk yc] 36)).drew):=(Kfr.refl _ _).drew
 replace hS:Hid (B10 (V5.alloc (.cells #[zI zL xo,zI zL xa,.string xs,zI zL xn,zI zL xd,.bool xf,zI zL xm,zI zL xr,zI zL xy,.slice xq xk xc,zI zL yo,zI zL ya,.string ys,zI zL yn,zI zL yd,.bool yf,zI zL ym,zI zL yr,zI zL yy,.slice yq yk yc] 36)).drew blx (zI zL xo) (zI zL xa) (.string xs) (zI zL xn) (zI zL xd) (.bool xf) (zI zL xm) (zI zL xr) (zI zL xy) (.slice xq xk xc)/\B10 (V5.alloc (.cells #[zI zL xo,zI zL xa,.string xs,zI zL xn,zI zL xd,.bool xf,zI zL xm,zI zL xr,zI zL xy,.slice xq xk xc,zI zL yo,zI zL ya,.string ys,zI zL yn,zI zL yd,.bool yf,zI zL ym,zI zL yr,zI zL yy,.slice yq yk yc] 36)).drew bly (zI zL yo) (zI zL ya) (.string ys) (zI zL yn) (zI zL yd) (.bool yf) (zI zL ym) (zI zL yr) (zI zL yy) (.slice yq yk yc)/\B5 (V5.alloc (.cells #[zI zL xo,zI zL xa,.string xs,zI zL xn,zI zL xd,.bool xf,zI zL xm,zI zL xr,zI zL xy,.slice xq xk xc,zI zL yo,zI zL ya,.string ys,zI zL yn,zI zL yd,.bool yf,zI zL ym,zI zL yr,zI zL yy,.slice yq yk yc] 36)).drew w.heap.size (.slice p n cap) (zI zL (k5:Nat)) (zI zL En) (zI zL E5) (zI zL O5)):=⟨Xx.out.bel hb4,Xy.out.bel hb4,F.out.A.bel hb4⟩
 have hUs:=World.block_lt_of_cell? _ _ F.out.R.c0
 generalize hVE:(V5.alloc (.cells #[zI zL xo,zI zL xa,.string xs,zI zL xn,zI zL xd,.bool xf,zI zL xm,zI zL xr,zI zL xy,.slice xq xk xc,zI zL yo,zI zL ya,.string ys,zI zL yn,zI zL yd,.bool yf,zI zL ym,zI zL yr,zI zL yy,.slice yq yk yc] 36)).drew=VE at *
 replace F:=zH (F.out.bel hb4)
 clear c0 c1 c2 c3 c4 f0 f1 f2 f3 f4
 refine hK.out _ _ ?_ (fun hHeld=>?_)
 ·exact hS
 clear hK K
 try simp only[Act.put,zA,zB,zC]
 refine tk6 (v:= .agg #[zI zL (7+(o:Int)),zI zL at0,.string ⟨#[]⟩,zI zL 0,zI zL 0,.bool false,zI zL 0,zI zL 0,zI zL 0,.slice (some ⟨V5.heap.size,0,none⟩) 2 2]) zab zab zab (fun _ _ _ h=>h) (Or.inl ⟨zab,?_⟩) hS ?_
 ·intro w' hSw
  go_simp;try with_reducible rfl
 simp only[Act.put,zA,zB,zC]
 obtain⟨n0,n1,n2,n3,n4,n5,n6,n7,n8,n9,m0,m1,m2,m3,m4,m5,m6,m7,m8,m9⟩:=F.out.N
 obtain⟨e0,e1,e2,e3,e4,g0,g1,g2,g3,g4⟩:=F.out.R
 have BV:=zH F.out.B
 clear hVE
 refine wpAnyH_ready (rs:=[8]) zab (by simp) (st8 (fun K hK=>?_) AllReadyH.nil)
 go_simp
 have hk:=Kept.set10 (Kept.refl (w.heap.size+1) VE) (zI zL (7+(o:Int))) (zI zL at0) (.string ⟨#[]⟩) (zI zL 0) (zI zL 0) (.bool false) (zI zL 0) (zI zL 0) (zI zL 0) (.slice (some ⟨V5.heap.size,0,none⟩) 2 2)
 have hS0:=hS
 replace hS:Hid (B10 _ blx (zI zL xo) (zI zL xa) (.string xs) (zI zL xn) (zI zL xd) (.bool xf) (zI zL xm) (zI zL xr) (zI zL xy) (.slice xq xk xc)/\B10 _ bly (zI zL yo) (zI zL ya) (.string ys) (zI zL yn) (zI zL yd) (.bool yf) (zI zL ym) (zI zL yr) (zI zL yy) (.slice yq yk yc)/\B5 _ w.heap.size (.slice p n cap) (zI zL (k5:Nat)) (zI zL En) (zI zL E5) (zI zL O5)):=⟨hS0.out.1.kept hk zac,hS0.out.2.1.kept hk zac,hS0.out.2.2.kept hk zac⟩
 clear hk hS0
 refine hK.out _ _ ?_ (fun hHeld=>?_)
 ·exact hS
 clear hK K
 try simp only[Act.put,zA,zB,zC]
 refine wpAnyH_ready (rs:=[9]) zab (by simp) (st9 (fun K hK=>?_) AllReadyH.nil)
 go_simp
 have hk:=Kept.set5 (Kept.refl (w.heap.size+2) ((((((((((VE.setCell ⟨w.heap.size+1,0,none⟩ (zI zL (7+(o:Int)))).setCell ⟨w.heap.size+1,1,none⟩ (zI zL at0)).setCell ⟨w.heap.size+1,2,none⟩ (.string ⟨#[]⟩)).setCell ⟨w.heap.size+1,3,none⟩ (zI zL 0)).setCell ⟨w.heap.size+1,4,none⟩ (zI zL 0)).setCell ⟨w.heap.size+1,5,none⟩ (.bool false)).setCell ⟨w.heap.size+1,6,none⟩ (zI zL 0)).setCell ⟨w.heap.size+1,7,none⟩ (zI zL 0)).setCell ⟨w.heap.size+1,8,none⟩ (zI zL 0)).setCell ⟨w.heap.size+1,9,none⟩ (.slice (some ⟨V5.heap.size,0,none⟩) 2 2))) (.slice p n cap) (zI zL (k5:Nat)) (zI zL En) (zI zL E5) (zI zL O5)
 have hS0:=hS
 replace hS:Hid (B10 _ blx (zI zL xo) (zI zL xa) (.string xs) (zI zL xn) (zI zL xd) (.bool xf) (zI zL xm) (zI zL xr) (zI zL xy) (.slice xq xk xc)/\B10 _ bly (zI zL yo) (zI zL ya) (.string ys) (zI zL yn) (zI zL yd) (.bool yf) (zI zL ym) (zI zL yr) (zI zL yy) (.slice yq yk yc)/\B5 _ w.heap.size (.slice p n cap) (zI zL (k5:Nat)) (zI zL En) (zI zL E5) (zI zL O5)):=⟨hS0.out.1.kept hk zac,hS0.out.2.1.kept hk zac,hS0.out.2.2.kept hk zac⟩
 clear hk hS0
 refine hK.out _ _ ?_ (fun hHeld=>?_)
 ·exact hS
 clear hK K
 try simp only[Act.put,zA,zB,zC]
 refine wpAnyH_done zab ?_ _
 go_wp2_with fail
 refine bodyPost_ret (v:= .tuple #[.agg #[zI zL (7+(o:Int)),zI zL at0,.string ⟨#[]⟩,zI zL 0,zI zL 0,.bool false,zI zL 0,zI zL 0,zI zL 0,.slice (some ⟨V5.heap.size,0,none⟩) 2 2],.agg #[.slice p n cap,zI zL (k5:Nat),zI zL En,zI zL E5,zI zL O5]]) zap rfl ⟨⟨(7+(o:Int)),at0,⟨#[]⟩,0,0,false,0,0,0,some ⟨V5.heap.size,0,none⟩,2,2⟩,rfl,fun u hu=>?_,zae⟩
 obtain⟨a,b1,ha,hb1,rfl⟩:=HU.out u hu
 rw[HAT.out]
 have wk:∀(lo:Nat) (t:Tree) (x:NV),w.heap.size+3<=lo->ah V5 lo (ag ts En) t x->ah V5 (w.heap.size+3) (ag ts En) t x:=fun lo t x h1 h2=>ah.keep (Kfr.refl _ _) h1 _ _ h2
 refine ah.keep (lo:=w.heap.size+3) (Kfr.refl _ _) zac _ _ (kJ (v:=V5) (T:=36) [a,b1] [⟨xo,xa,xs,xn,xd,xf,xm,xr,xy,xq,xk,xc⟩,⟨yo,ya,ys,yn,yd,yf,ym,yr,yy,yq,yk,yc⟩] (7+(o:Int)) (n-k) 2 rfl zac (fun i h h'=>?_) ?_)
 ·match i,h with
  | 0,_=>exact wk _ _ _ zac (Nx.out a ha)
  | 1,_=>exact wk _ _ _ zac (Ny.out b1 hb1)
 ·exact EY
end Go.Proofs.YtnjfolljbfkojaaGreatDoor
