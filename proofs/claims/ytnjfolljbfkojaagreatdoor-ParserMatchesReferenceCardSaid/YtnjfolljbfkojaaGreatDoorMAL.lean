import Derived.Test.YtnjfolljbfkojaaGreatDoorMAJ
set_option maxRecDepth 100000
set_option maxHeartbeats 20000000
namespace Go.Proofs.YtnjfolljbfkojaaGreatDoor
open Go.Value renaming int→zI
open Go.IntKind renaming i64→zL
open Go.Lib renaming hid→zH
open Go.RowKit Lx Pa
section
variable {P:Program} {o:Oper} {a:Act} {w w':World} {K:Act->World->Prop} {Q:Exit->Act->World->Prop} {t:TypeId} {v:Value}
theorem wp_build {l:List (Nat×Operand)}(ho:o.op = .build t l.toArray)(hr:(Instr.build t (l.map fun (i,x)=>(i,a.eval x)).toArray).run P w = .ok v w')(h:K (a.put o.dst v) w'):Oper.wp P o a w K Q:=by
 unfold Oper.wp execOp
 simp only[ho,Sem.run_bind,Sem.run_pure,List.map_toArray,hr]
 exact h
theorem fC (ho:o.op = .alloc t)(hr:(Instr.alloc t true (.tuple #[])).run P w = .ok v w')(h:K (a.put o.dst v) w'):Oper.wp P o a w K Q:=by
 unfold Oper.wp execOp
 simp only[ho,Sem.run_bind,Sem.run_pure,hr]
 exact h
theorem uT {x:Operand}{y:Value}(ho:o.op = .load t x)(hx:a.eval x=y)(hr:(Instr.loadAt t y).run P w = .ok v w')(h:K (a.put o.dst v) w'):Oper.wp P o a w K Q:=by
 unfold Oper.wp execOp
 simp only[ho,Sem.run_bind,Sem.run_pure,hx,hr]
 exact h
theorem aY {x:Operand}{y:Value}{ρ:Operand->Value}(ho:o.op = .load t x)(hx:ρ x=y)(hr:(Instr.loadAt t y).run P w = .ok v w'):(execOp ρ o).run P w = .ok (.value v) w':=by
 unfold execOp
 simp only[ho,Sem.run_bind,Sem.run_pure,hx,hr]
 rfl
theorem gz {x z:Operand}{y u:Value}(ho:o.op = .store t x z)(hx:a.eval x=y)(hz:a.eval z=u)(hr:(Instr.storeAt t y u).run P w = .ok () w')(h:K (a.put o.dst undef) w'):Oper.wp P o a w K Q:=by
 unfold Oper.wp execOp
 simp only[ho,Sem.run_bind,Sem.run_pure,hx,hz,hr]
 exact h
theorem kg {x:Operand}{y:Value}(ho:o.op = .buildSlice t 1 #[(0,x)])(hx:a.eval x=y)(hr:(Instr.buildSlice t 1 #[(0,y)]).run P w = .ok v w')(h:K (a.put o.dst v) w'):Oper.wp P o a w K Q:=by
 unfold Oper.wp execOp
 simp only[ho,Sem.run_bind,Sem.run_pure,List.map_toArray,List.map_cons,List.map_nil,hx,hr]
 exact h
end
section
variable {P:Program} {ops:Array Oper} {rest:List Oper} {o:Oper} {a:Act} {w w':World} {Q:Exit->Act->World->Prop} {t:TypeId} {v:Value}
theorem qw {l:List (Nat×Operand)}(hgd:o.guard=none)(ho:o.op = .build t l.toArray)(hr:(Instr.build t (l.map fun (i,x)=>(i,a.eval x)).toArray).run P w = .ok v w')(h:wpList P ops Q rest (a.put o.dst v) w'):wpList P ops Q (o::rest) a w:=wpList_plain hgd fun _ hK=>wp_build ho hr (hK _ _ h)
theorem jA (hgd:o.guard=none)(ho:o.op = .alloc t)(hr:(Instr.alloc t true (.tuple #[])).run P w = .ok v w')(h:wpList P ops Q rest (a.put o.dst v) w'):wpList P ops Q (o::rest) a w:=wpList_plain hgd fun _ hK=>fC ho hr (hK _ _ h)
theorem iL {x z:Operand}{y u:Value}(hgd:o.guard=none)(ho:o.op = .store t x z)(hx:a.eval x=y)(hz:a.eval z=u)(hr:(Instr.storeAt t y u).run P w = .ok () w')(h:wpList P ops Q rest (a.put o.dst undef) w'):wpList P ops Q (o::rest) a w:=wpList_plain hgd fun _ hK=>gz ho hx hz hr (hK _ _ h)
end
def cK:Array Value:=#[.string ⟨#[]⟩,zI zL 0,zI zL 0,.string ⟨#[]⟩,zI zL 0,zI zL 0,zI zL 0,zI zL 0,zI zL 0,.string ⟨#[]⟩,zI zL 0,zI zL 0,.bool false,zI zL 0,zI zL 0,zI zL 0,.slice none 0 0,zI zL 0,zI zL 0,.string ⟨#[]⟩,zI zL 0,zI zL 0,.bool false,zI zL 0,zI zL 0,zI zL 0,.slice none 0 0,zI zL 0]
theorem uB (w:World):(zeroValue 49).run Tryz.prog w = .ok (.agg cK) w:=by kernel_rfl
theorem bK (w:World):(Instr.alloc 49 true (.tuple #[])).run Tryz.prog w = .ok (.pointer (some ⟨w.heap.size,0,none⟩)) (w.alloc (.cells cK 49)):=by
 unfold Instr.alloc
 simp only[Sem.run_bind,uB,Result.andThen]
 rfl
theorem sP (nm:ByteArray)(ver at0 kd:Int)(w:World):(Instr.build 49 #[(8,zI zL at0),(2,zI zL kd),(0,.string nm),(1,zI zL ver)]).run Tryz.prog w = .ok (.agg #[.string nm,zI zL ver,zI zL kd,.string ⟨#[]⟩,zI zL 0,zI zL 0,zI zL 0,zI zL 0,zI zL 0,.string ⟨#[]⟩,zI zL 0,zI zL 0,.bool false,zI zL 0,zI zL 0,zI zL 0,.slice none 0 0,zI zL 0,zI zL 0,.string ⟨#[]⟩,zI zL 0,zI zL 0,.bool false,zI zL 0,zI zL 0,zI zL 0,.slice none 0 0,zI zL at0]) w:=zab
theorem lh (A:Array Value)(h:A.size=28)(h1:A.all (·.oneCell')=true)(w:World):(Instr.storeAt 49 (.pointer (some ⟨w.heap.size,0,none⟩)) (.agg A)).run Tryz.prog (w.alloc (.cells cK 49)) = .ok () (w.alloc (.cells A 49)) :=
 run_storeAt_new w _ _ _ (by rw[h];kernel_rfl) (by rw[h];rfl) h1
theorem kT (x0 x1 x2 x3 x4 x5 x6 x7 x8 x9 x10 x11 x12 x13 x14 x15 x16 x17 x18 x19 x20 x21 x22 x23 x24 x25 x26 x27:Value)(w:World):(Instr.buildSlice 24 1 #[(0,.agg #[x0,x1,x2,x3,x4,x5,x6,x7,x8,x9,x10,x11,x12,x13,x14,x15,x16,x17,x18,x19,x20,x21,x22,x23,x24,x25,x26,x27])]).run Tryz.prog w = .ok (.slice (some ⟨w.heap.size,0,none⟩) 1 1) (w.alloc (.cells #[x0,x1,x2,x3,x4,x5,x6,x7,x8,x9,x10,x11,x12,x13,x14,x15,x16,x17,x18,x19,x20,x21,x22,x23,x24,x25,x26,x27] 49)):=zab
theorem aS (T n:Nat)(hu:(Tryz.prog.underlying T).map (fun d=>match d with | .struct _ | .array _ _=>true|_=>false)=some true)(hi:(Tryz.prog.info? T).map (·.size)=some n)(w:World)(b:Nat)(l:List Value)(hl:l.length=n)(h:∀j v,l[j]? = some v->w.cell? ⟨b,j,none⟩=some v):(Instr.loadAt T (.pointer (some ⟨b,0,none⟩))).run Tryz.prog w = .ok (.agg l.toArray) w:=by
 have hc:(loadCells ⟨b,0,none⟩ l.length).run Tryz.prog w = .ok l.toArray w:=run_loadCells_list (P:=Tryz.prog) w ⟨b,0,none⟩ l (fun j v hv=>by
   have hadd:(⟨b,0,none⟩:Addr).add j=⟨b,j,none⟩:=by unfold Addr.add;split<;>simp_all
   rw[hadd];exact h j v hv)
 exact zz85
theorem ku (w:World)(b:Nat)(l:List Value)(hl:l.length=28)(h:∀j v,l[j]? = some v->w.cell? ⟨b,j,none⟩=some v):(Instr.loadAt 49 (.pointer (some ⟨b,0,none⟩))).run Tryz.prog w = .ok (.agg l.toArray) w :=
 aS _ 28 zab zab w b l hl h
theorem je (ts:List Tok)(p:Option Addr)(b off cap n k En:Nat)(E O:Int)(w:World)(hS:SlT w p b off n ts)(hwf:Wf ts)(hk:k<=n)(hF:E≠0\/(E=0/\isN (ts.drop k)=false/\isA (ts.drop k)=false/\isW bB (ts.drop k)=false/\isW sLp (ts.drop k)=false/\which [gX,iy] (ts.drop k)=none)) :
  Calls Tryz.prog 71 #[.agg #[.slice p n cap,zI zL k,zI zL En,zI zL E,zI zL O]] w fun e w'=>e = .returned (.tuple #[.agg #[zI zL 0,zI zL 0,.string ⟨#[]⟩,zI zL 0,zI zL 0,.bool false,zI zL 0,zI zL 0,zI zL 0,.slice none 0 0],.agg #[.slice p n cap,zI zL k,zI zL En,zI zL (if E=0 then 10 else E),zI zL (if E=0 then ag ts En (n-k) else O)]])/\RowKit.Below w.heap.size w w':=by
 have KO:=zH (fun w hS=>aj ts p b off cap n k En E O w hS hk)
 have KN:Hid (∀w,SlT w p b off n ts->Calls Tryz.prog 67 #[.agg #[.slice p n cap,zI zL k,zI zL En,zI zL E,zI zL O]] w fun e w'=>e = .returned (.bool false)/\RowKit.Below w.heap.size w w'):=fun w hS=>by
  rcases hF with h|⟨rfl,h1,h2,h3,h4,h5⟩
  ·exact tO p cap n k En E O w h
  ·have:=bR ts p b off cap n k En O w hS
   rw[h1] at this
   exact this
 have KA:Hid (∀w,SlT w p b off n ts->Calls Tryz.prog 66 #[.agg #[.slice p n cap,zI zL k,zI zL En,zI zL E,zI zL O]] w fun e w'=>e = .returned (.bool false)/\RowKit.Below w.heap.size w w'):=fun w hS=>by
  rcases hF with h|⟨rfl,h1,h2,h3,h4,h5⟩
  ·exact ng p cap n k En E O w h
  ·have:=bZ ts p b off cap n k En O w hS hwf
   rw[h2] at this
   exact this
 have KT:Hid (∀w,SlT w p b off n ts->Calls Tryz.prog 20 #[.agg #[.slice p n cap,zI zL k,zI zL En,zI zL E,zI zL O],.string (bs bB)] w fun e w'=>e = .returned (.bool false)/\RowKit.Below w.heap.size w w'):=fun w hS=>by
  rcases hF with h|⟨rfl,h1,h2,h3,h4,h5⟩
  ·exact nN bB p cap n k En E O w h
  ·have:=bE bB ts p b off cap n k En O w hS
   rw[h3] at this
   exact this
 have KL:Hid (∀w,SlT w p b off n ts->Calls Tryz.prog 20 #[.agg #[.slice p n cap,zI zL k,zI zL En,zI zL E,zI zL O],.string (bs sLp)] w fun e w'=>e = .returned (.bool false)/\RowKit.Below w.heap.size w w'):=fun w hS=>by
  rcases hF with h|⟨rfl,h1,h2,h3,h4,h5⟩
  ·exact nN sLp p cap n k En E O w h
  ·have:=bE sLp ts p b off cap n k En O w hS
   rw[h4] at this
   exact this
 have KW:Hid (∀w p2 b2,SlT w p b off n ts->SlS w p2 b2 0 2 [gX,iy]->Calls Tryz.prog 42 #[.agg #[.slice p n cap,zI zL k,zI zL En,zI zL E,zI zL O],.slice p2 2 2] w fun e w'=>e = .returned (zI zL (-1))/\RowKit.Below w.heap.size w w'):=fun w p2 b2 hS hL=>by
  rcases hF with h|⟨rfl,h1,h2,h3,h4,h5⟩
  ·exact iA [gX,iy] ts p p2 b off cap n k b2 0 2 2 En E O w hS hL h
  ·have:=bM [gX,iy] ts p p2 b off cap n k b2 0 2 2 En O w hS hL
   rw[h5] at this
   exact this
 have KF:=zH (fun a0 w=>bA p n cap k En E O 10 a0 w)
 have HS:=zH hS
 clear hS hF hwf
 obtain⟨E1,hE1⟩:∃x,x=(if E=0 then 10 else E):=⟨_,rfl⟩
 obtain⟨O1,hO1⟩:∃x,x=(if E=0 then ag ts En (n-k) else O):=⟨_,rfl⟩
 have KF2:Hid (∀w,Calls Tryz.prog 27 #[.agg #[.slice p n cap,zI zL k,zI zL En,zI zL E,zI zL O],zI zL 10,zI zL (ag ts En (n-k))] w fun e w'=>e = .returned (.agg #[.slice p n cap,zI zL k,zI zL En,zI zL E1,zI zL O1])/\RowKit.Below w.heap.size w w'):=fun w=>by rw[hE1,hO1];exact KF.out _ w
 rw[<-hE1,<-hO1]
 clear hE1 hO1 KF
 generalize ag ts En (n-k)=at0 at *
 obtain⟨W3,hW3⟩:∃W3,W3=((w.alloc (.cells #[.slice p n cap,zI zL k,zI zL En,zI zL E,zI zL O] 62)).alloc (.cells #[zI zL 0,zI zL 0,.string ⟨#[]⟩,zI zL 0,zI zL 0,.bool false,zI zL 0,zI zL 0,zI zL 0,.slice none 0 0] 36)).alloc (.cells #[.slice none 0 0,zI zL 0,zI zL 0,zI zL 0,zI zL 0] 62):=⟨_,rfl⟩
 have F:=zH (Fr.new w p n cap k En E O 62 36)
 rw[<-hW3] at F
 go_enter Tryz.func71,Tryz.ntmps71
 go_wp2_with fail
 rw[<-hW3]
 clear hW3
 refine(KO.out _ (HS.out.bel F.out.B)).mono ?_
 rintro _ v1 ⟨rfl,hb⟩
 replace F:=zH (F.out.bel hb)
 clear hb
 obtain⟨c0,c1,c2,c3,c4,f0,f1,f2,f3,f4⟩:=F.out.A
 go_wp2_with fail
 refine(KN.out _ (HS.out.bel F.out.B)).mono ?_
 rintro _ v2 ⟨rfl,hb⟩
 replace F:=zH (F.out.bel hb)
 clear c0 c1 c2 c3 c4 f0 f1 f2 f3 f4
 clear hb
 obtain⟨c0,c1,c2,c3,c4,f0,f1,f2,f3,f4⟩:=F.out.A
 go_wp2_with fail
 refine(KA.out _ (HS.out.bel F.out.B)).mono ?_
 rintro _ v3 ⟨rfl,hb⟩
 replace F:=zH (F.out.bel hb)
 clear c0 c1 c2 c3 c4 f0 f1 f2 f3 f4
 clear hb
 obtain⟨c0,c1,c2,c3,c4,f0,f1,f2,f3,f4⟩:=F.out.A
 go_wp2_with fail
 refine(KT.out _ (HS.out.bel F.out.B)).mono ?_
 rintro _ v4 ⟨rfl,hb⟩
 replace F:=zH (F.out.bel hb)
 clear c0 c1 c2 c3 c4 f0 f1 f2 f3 f4
 clear hb
 obtain⟨c0,c1,c2,c3,c4,f0,f1,f2,f3,f4⟩:=F.out.A
 go_wp2_with fail
 refine(KL.out _ (HS.out.bel F.out.B)).mono ?_
 rintro _ v5 ⟨rfl,hb⟩
 replace F:=zH (F.out.bel hb)
 clear c0 c1 c2 c3 c4 f0 f1 f2 f3 f4
 clear hb
 obtain⟨c0,c1,c2,c3,c4,f0,f1,f2,f3,f4⟩:=F.out.A
 go_wp2_with fail
 have HL:=zH (iO v5 [gX,iy] 9 zah)
 replace F:=zH (F.out.bel ((Below.refl v5.heap.size v5).alloc (Nat.le_refl _) (.cells #[.string { data:=#[109,105,110] },.string { data:=#[109,97,120] }] 9)))
 refine(KW.out _ _ _ (HS.out.bel F.out.B) HL.out).mono ?_
 rintro _ v6 ⟨rfl,hb⟩
 replace F:=zH (F.out.bel hb)
 clear c0 c1 c2 c3 c4 f0 f1 f2 f3 f4
 clear hb
 obtain⟨c0,c1,c2,c3,c4,f0,f1,f2,f3,f4⟩:=F.out.A
 go_wp2_with fail
 refine(KF2.out _).mono ?_
 rintro _ v7 ⟨rfl,hb⟩
 replace F:=zH (F.out.bel hb)
 clear c0 c1 c2 c3 c4 f0 f1 f2 f3 f4
 clear hb
 obtain⟨c0,c1,c2,c3,c4,f0,f1,f2,f3,f4⟩:=F.out.A
 obtain⟨n0,n1,n2,n3,n4,n5,n6,n7,n8,n9,m0,m1,m2,m3,m4,m5,m6,m7,m8,m9⟩:=F.out.N
 obtain⟨e0,e1,e2,e3,e4,g0,g1,g2,g3,g4⟩:=F.out.R
 have BV:=zH F.out.B
 go_wp2_with fail
 exact bodyPost_ret (v:= .tuple #[.agg #[zI zL 0,zI zL 0,.string ⟨#[]⟩,zI zL 0,zI zL 0,.bool false,zI zL 0,zI zL 0,zI zL 0,.slice none 0 0],.agg #[.slice p n cap,zI zL k,zI zL En,zI zL E1,zI zL O1]]) zap rfl ⟨rfl,zae⟩
structure Sg where
 k:Nat
 E:Int
 O:Int
section
variable {α β:Type} (ts:List Tok) (En:Nat)
def Sg.run (σ:Sg)(o:List Tok->Out α):Sg:=if σ.E=0 then (match o (ts.drop σ.k) with
 | .ok _ r=>⟨ts.length-r.length,0,σ.O⟩
 | .er e q m=>⟨ts.length-m,e,ag ts En q⟩) else σ
def Sg.val (σ:Sg)(o:List Tok->Out α):Option α:=if σ.E=0 then outT (o (ts.drop σ.k)) else none
variable {ts En}
theorem drop_left {r pre:List Tok}{k:Nat}(h:ts.drop k=pre++r)(hk:k<=ts.length):ts.drop (ts.length-r.length)=r/\r.length<=ts.length/\k<=ts.length-r.length:=by
 have hl:=congrArg List.length h
 rw[List.length_drop,List.length_append] at hl
 have e:ts=ts.take k++(pre++r):=by rw[<-h,List.take_append_drop]
 refine⟨?_,zac,zac⟩
 have e2:ts.length-r.length=(ts.take k++pre).length:=by rw[List.length_append,List.length_take];omega
 rw[e2]
 have h1:(ts.take k++pre)++r=ts:=by rw[List.append_assoc,<-e]
 have h2:=List.drop_left (l₁:=ts.take k++pre) (l₂:=r)
 rw[h1] at h2
 exact h2
theorem dx {σ:Sg}(h:σ.E≠0)(o:List Tok->Out α):σ.run ts En o=σ:=by unfold Sg.run;rw[if_neg h]
theorem dZ {σ:Sg}(h:σ.E≠0)(o:List Tok->Out α):σ.val ts o=none:=by unfold Sg.val;rw[if_neg h]
theorem au {σ:Sg}{o:List Tok->Out α}{s:Bool}(g:Pa.Good (ts.drop σ.k) s (o (ts.drop σ.k)))(hk:σ.k<=ts.length):(σ.run ts En o).k<=ts.length/\σ.k<=(σ.run ts En o).k:=by
 unfold Sg.run
 split
 ·cases h:o (ts.drop σ.k) with
  | ok a r =>
   rw[h] at g
   obtain⟨pre,e,-,-⟩:=g
   have:=drop_left e hk
   exact⟨by show ts.length-r.length<=_;omega,this.2.2⟩
  | er e q m =>
   rw[h] at g
   have h2:=g.2.1
   have h3:=g.2.2.1
   rw[List.length_drop] at h2
   exact⟨by show ts.length-m<=_;omega,by show _<=ts.length-m;omega⟩
 ·exact⟨hk,Nat.le_refl _⟩
theorem ik {σ:Sg}{o:List Tok->Out α}{a:α}(h:σ.val ts o=some a):σ.E=0/\(σ.run ts En o).E=0/\(σ.run ts En o).O=σ.O/\∃r,o (ts.drop σ.k) = .ok a r/\(σ.run ts En o).k=ts.length-r.length:=by
 unfold Sg.val at h
 split at h
 ·rename_i h0
  unfold Sg.run
  rw[if_pos h0]
  cases hx:o (ts.drop σ.k) with
  | er e q m=>rw[hx] at h;cases h
  | ok b r =>
   rw[hx] at h
   simp only[outT,Option.some.injEq] at h
   subst h
   exact⟨h0,rfl,rfl,r,rfl,rfl⟩
 ·cases h
theorem jC {σ:Sg}{o:List Tok->Out α}{s:Bool}(g:Pa.Good (ts.drop σ.k) s (o (ts.drop σ.k)))(h:σ.val ts o=none):(σ.run ts En o).E≠0:=by
 unfold Sg.val at h
 unfold Sg.run
 split
 ·rename_i h0
  rw[if_pos h0] at h
  cases hx:o (ts.drop σ.k) with
  | ok b r=>rw[hx] at h;cases h
  | er e q m =>
   rw[hx] at g
   show e≠0
   rcases g.1 with e|e|e<;>rw[e]<;>decide
 ·rename_i h0;exact h0
theorem run_bind {σ:Sg}{o:List Tok->Out α}{f:α->List Tok->Out β}{s:Bool}(g:Pa.Good (ts.drop σ.k) s (o (ts.drop σ.k)))(hk:σ.k<=ts.length) :
  (σ.run ts En (fun t=>(o t).bind f)=match σ.val ts o with|some a=>(σ.run ts En o).run ts En (f a)|none=>σ.run ts En o) /\
  (σ.val ts (fun t=>(o t).bind f)=match σ.val ts o with|some a=>(σ.run ts En o).val ts (f a)|none=>none):=by
 by_cases h0:σ.E=0
 ·cases hx:o (ts.drop σ.k) with
  | er e q m =>
   have hv:σ.val ts o=none:=by unfold Sg.val;rw[if_pos h0,hx];rfl
   rw[hv]
   refine⟨?_,?_⟩
   ·unfold Sg.run;rw[if_pos h0,if_pos h0];simp only[hx,lU]
   ·unfold Sg.val;rw[if_pos h0];simp only[hx,lU];rfl
  | ok a r =>
   have hv:σ.val ts o=some a:=by unfold Sg.val;rw[if_pos h0,hx];rfl
   rw[hx] at g
   obtain⟨pre,e,-,-⟩:=g
   have hd:=(drop_left e hk).1
   have hr:σ.run ts En o=⟨ts.length-r.length,0,σ.O⟩:=by unfold Sg.run;rw[if_pos h0,hx]
   rw[hv,hr]
   refine⟨?_,?_⟩
   ·simp only[Sg.run,h0,if_true,hx,bind_ok,hd]
   ·simp only[Sg.val,h0,if_true,hx,bind_ok,hd]
 ·rw[dZ h0,dx h0,dx h0,dZ h0];exact⟨rfl,rfl⟩
theorem bV {σ:Sg}{o:List Tok->Out α}{f:α->List Tok->Out β}{γ:Type}{f':List Tok->Out γ}{s:Bool}(g:Pa.Good (ts.drop σ.k) s (o (ts.drop σ.k)))(hk:σ.k<=ts.length)(hf:∀(a:α) (τ:Sg),τ.k<=ts.length->σ.k<=τ.k->τ.run ts En (f a)=τ.run ts En f'):σ.run ts En (fun t=>(o t).bind f)=(σ.run ts En o).run ts En f':=by
 rw[(run_bind g hk).1]
 have hb:=au (En:=En) g hk
 cases hv:σ.val ts o with
 | some a=>exact hf a _ hb.1 hb.2
 | none=>exact(dx (jC (En:=En) g hv) f').symm
theorem mo {σ:Sg}(a:α)(hk:σ.k<=ts.length):σ.run ts En (fun r=> .ok a r)=σ:=by
 unfold Sg.run
 split
 ·rename_i h0
  obtain⟨k,E,O⟩:=σ
  simp only at h0 hk |-
  subst h0
  rw[List.length_drop]
  have:ts.length-(ts.length-k)=k:=zac
  rw[this]
 ·rfl
theorem eD {σ:Sg}{o o':List Tok->Out α}(h:o (ts.drop σ.k)=o' (ts.drop σ.k)):σ.run ts En o=σ.run ts En o'/\σ.val ts o=σ.val ts o':=by
 unfold Sg.run Sg.val;rw[h];exact⟨rfl,rfl⟩
theorem dM {k:Nat}{O:Int}{o o':List Tok->Out α}(h:o (ts.drop k)=o' (ts.drop (k+1))):(Sg.mk k 0 O).run ts En o=(Sg.mk (k+1) 0 O).run ts En o'/\(Sg.mk k 0 O).val ts o=(Sg.mk (k+1) 0 O).val ts o':=by
 simp[Sg.run,Sg.val,h]
theorem kV {σ:Sg}{o:List Tok->Out α}{s:Bool}{a:α}{r:List Tok}(h0:σ.E=0)(hx:o (ts.drop σ.k) = .ok a r)(g:Pa.Good (ts.drop σ.k) s (o (ts.drop σ.k)))(hk:σ.k<=ts.length) :
  (σ.run ts En o).E=0/\ts.drop (σ.run ts En o).k=r/\(σ.run ts En o).k<=ts.length/\σ.val ts o=some a/\(σ.run ts En o).O=σ.O:=by
 have hb:=(au (En:=En) g hk).1
 rw[hx] at g
 obtain⟨pre,e,-,-⟩:=g
 have hr:σ.run ts En o=⟨ts.length-r.length,0,σ.O⟩:=by unfold Sg.run;rw[if_pos h0,hx]
 refine⟨by rw[hr],by rw[hr];exact(drop_left e hk).1,hb,by unfold Sg.val;rw[if_pos h0,hx];rfl,by rw[hr]⟩
theorem aJ (w:List UInt8)(hw:w≠sSc)(t:List Tok):Pa.Good t true (need w t):=bn t hw
variable {M:Int->Int->Int×Int×Int}
theorem CB (k:Nat)(O:Int)(hk:k<ts.length)(h:isW kIf (ts.drop k)=true):∃σ1 σ2 σ3 σ4:Sg,σ1=(Sg.mk (k+1) 0 O).run ts En (rd M .ex)/\σ2=σ1.run ts En (need dL)/\σ3=σ2.run ts En (rd M .ex)/\σ4=σ3.run ts En (need cu) /\
  (Sg.mk k 0 O).run ts En (rd M .ex)=σ4.run ts En (rd M .ex)/\(k+1<=ts.length/\k+1<=σ1.k/\σ1.k<=ts.length/\σ1.k<=σ2.k/\σ2.k<=ts.length/\σ2.k<=σ3.k/\σ3.k<=ts.length/\σ3.k<=σ4.k/\σ4.k<=ts.length) /\
  ∀u,(Sg.mk k 0 O).val ts (rd M .ex)=some u->∃a b c,(Sg.mk (k+1) 0 O).val ts (rd M .ex)=some a/\σ2.val ts (rd M .ex)=some b/\σ4.val ts (rd M .ex)=some c/\u = .mk 16 (ts.length-k) [] 0 0 1 [a,b,c]:=by
 have G:∀t,Pa.Good t (strict .ex) (rd M .ex t):=fun t=>aX .ex t
 have hl:(ts.drop k).length=ts.length-k:=List.length_drop
 have ht:(ts.drop k).tail=ts.drop (k+1):=by rw[List.tail_drop]
 have he:rd M .ex (ts.drop k)=(fun t=>(rd M .ex t).bind fun a r1=>(need dL r1).bind fun _ r2=>(rd M .ex r2).bind fun b r3=>(need cu r3).bind fun _ r4=>(rd M .ex r4).bind fun c r5=> .ok (Tree.mk 16 (ts.length-k) [] 0 0 1 [a,b,c]) r5) (ts.drop (k+1)):=by
  rw[fK]
  simp only[Pa.step]
  rw[if_pos h,hl,ht]
 obtain⟨t1,t2⟩:=dM (ts:=ts) (En:=En) (k:=k) (O:=O) (o:=rd M .ex) (o':=(fun t=>(rd M .ex t).bind fun a r1=>(need dL r1).bind fun _ r2=>(rd M .ex r2).bind fun b r3=>(need cu r3).bind fun _ r4=>(rd M .ex r4).bind fun c r5=> .ok (Tree.mk 16 (ts.length-k) [] 0 0 1 [a,b,c]) r5)) he
 have k0:(Sg.mk (k+1) 0 O).k<=ts.length:=hk
 obtain⟨σ1,h1⟩:∃σ,σ=(Sg.mk (k+1) 0 O).run ts En (rd M .ex):=⟨_,rfl⟩
 have k1:=au (En:=En) (G (ts.drop (Sg.mk (k+1) 0 O).k)) k0
 rw[<-h1] at k1
 obtain⟨σ2,h2⟩:∃σ,σ=σ1.run ts En (need dL):=⟨_,rfl⟩
 have k2:=au (En:=En) (aJ dL zah (ts.drop σ1.k)) k1.1
 rw[<-h2] at k2
 obtain⟨σ3,h3⟩:∃σ,σ=σ2.run ts En (rd M .ex):=⟨_,rfl⟩
 have k3:=au (En:=En) (G (ts.drop σ2.k)) k2.1
 rw[<-h3] at k3
 obtain⟨σ4,h4⟩:∃σ,σ=σ3.run ts En (need cu):=⟨_,rfl⟩
 have k4:=au (En:=En) (aJ cu zah (ts.drop σ3.k)) k3.1
 rw[<-h4] at k4
 refine⟨σ1,σ2,σ3,σ4,h1,h2,h3,h4,?_,⟨hk,k1.2,k1.1,k2.2,k2.1,k3.2,k3.1,k4.2,k4.1⟩,?_⟩
 ·rw[t1]
  have last:∀(F:Tree->Tree) (τ:Sg),τ.k<=ts.length->τ.run ts En (fun r4=>(rd M .ex r4).bind fun c r5=> .ok (F c) r5)=τ.run ts En (rd M .ex):=fun F τ hτ=>by
   rw[bV (f':=fun r=>Out.ok () r) (G _) hτ (fun a ρ hρ _=>by rw[mo _ hρ,mo _ hρ])]
   exact mo () (au (En:=En) (G _) hτ).1
  rw[bV (f':=fun r1=>(need dL r1).bind fun _ r2=>(rd M .ex r2).bind fun b r3=>(need cu r3).bind fun _ r4=>rd M .ex r4) (G _) k0 ?_,<-h1]
  ·rw[bV (f':=fun r2=>(rd M .ex r2).bind fun b r3=>(need cu r3).bind fun _ r4=>rd M .ex r4) (aJ dL zah _) k1.1 (fun _ τ _ _=>rfl),<-h2]
   rw[bV (f':=fun r3=>(need cu r3).bind fun _ r4=>rd M .ex r4) (G _) k2.1 (fun _ τ _ _=>rfl),<-h3]
   rw[bV (f':=fun r4=>rd M .ex r4) (aJ cu zah _) k3.1 (fun _ τ _ _=>rfl),<-h4]
  ·intro a τ hτ _
   rw[bV (f':=fun r2=>(rd M .ex r2).bind fun b r3=>(need cu r3).bind fun _ r4=>(rd M .ex r4).bind fun c r5=> .ok (Tree.mk 16 (ts.length-k) [] 0 0 1 [a,b,c]) r5) (aJ dL zah _) hτ (fun _ τ _ _=>rfl)]
   rw[bV (f':=fun r2=>(rd M .ex r2).bind fun b r3=>(need cu r3).bind fun _ r4=>rd M .ex r4) (aJ dL zah _) hτ (fun _ τ _ _=>rfl)]
   have hτ2:=(au (En:=En) (aJ dL zah (ts.drop τ.k)) hτ).1
   generalize τ.run ts En (need dL)=ρ at *
   rw[bV (f':=fun r3=>(need cu r3).bind fun _ r4=>rd M .ex r4) (G _) hτ2 (fun b χ hχ _=>?_),bV (f':=fun r3=>(need cu r3).bind fun _ r4=>rd M .ex r4) (G _) hτ2 (fun b χ hχ _=>rfl)]
   rw[bV (f':=fun r4=>(rd M .ex r4).bind fun c r5=> .ok (Tree.mk 16 (ts.length-k) [] 0 0 1 [a,b,c]) r5) (aJ cu zah _) hχ (fun _ τ _ _=>rfl),bV (f':=fun r4=>rd M .ex r4) (aJ cu zah _) hχ (fun _ τ _ _=>rfl)]
   exact last _ _ (au (En:=En) (aJ cu zah (ts.drop χ.k)) hχ).1
 ·intro u hu
  rw[t2] at hu
  obtain⟨-,-,-,r,hr,-⟩:=ik (En:=En) hu
  simp only at hr
  obtain⟨a,r1,e1,hr⟩:=ai hr
  obtain⟨_,r2,e2,hr⟩:=ai hr
  obtain⟨b,r3,e3,hr⟩:=ai hr
  obtain⟨_,r4,e4,hr⟩:=ai hr
  obtain⟨c,r5,e5,hr⟩:=ai hr
  simp only[Out.ok.injEq] at hr
  have o1:=kV (En:=En) (σ:=Sg.mk (k+1) 0 O) rfl e1 (G _) k0
  rw[<-h1] at o1
  have o2:=kV (En:=En) (σ:=σ1) (o:=need dL) o1.1 (by rw[o1.2.1];exact e2) (aJ dL zah _) k1.1
  rw[<-h2] at o2
  have o3:=kV (En:=En) (σ:=σ2) (o:=rd M .ex) o2.1 (by rw[o2.2.1];exact e3) (G _) k2.1
  rw[<-h3] at o3
  have o4:=kV (En:=En) (σ:=σ3) (o:=need cu) o3.1 (by rw[o3.2.1];exact e4) (aJ cu zah _) k3.1
  rw[<-h4] at o4
  have o5:=kV (En:=En) (σ:=σ4) (o:=rd M .ex) o4.1 (by rw[o4.2.1];exact e5) (G _) k4.1
  exact⟨a,b,c,o1.2.2.2.1,o3.2.2.2.1,o5.2.2.2.1,hr.1.symm⟩
theorem aQ {α β:Type}{σ σ1 τ:Sg}{o:List Tok->Out α}{f:α->List Tok->Out β}{s:Bool}(a0:α)(V:α->Option β)(g:Pa.Good (ts.drop σ.k) s (o (ts.drop σ.k)))(hk:σ.k<=ts.length)(h1:σ1=σ.run ts En o)(h:σ1.k<=ts.length->∀a,σ1.run ts En (f a)=τ/\σ1.val ts (f a)=V a) :
  σ.run ts En (fun t=>(o t).bind f)=τ/\σ.val ts (fun t=>(o t).bind f)=(σ.val ts o).bind V:=by
 subst h1
 obtain⟨b1,b2⟩:=run_bind (En:=En) (f:=f) g hk
 have hk1:=(au (En:=En) g hk).1
 rw[b1,b2]
 cases hv:σ.val ts o with
 | some a=>exact h hk1 a
 | none =>
  refine⟨?_,rfl⟩
  have:=(h hk1 a0).1
  rw[dx (jC (En:=En) g hv)] at this
  exact this
theorem qA {α:Type}{σ:Sg}(a:α)(hk:σ.k<=ts.length):σ.run ts En (fun r=> .ok a r)=σ/\σ.val ts (fun r=> .ok a r)=if σ.E=0 then some a else none:=by
 refine⟨mo a hk,?_⟩
 unfold Sg.val
 split<;>rfl
instance:Inhabited Tree:=⟨.mk 0 0 [] 0 0 1 []⟩
theorem fe (t:List Tok):Pa.Good t true (rd M .ex t):=aX .ex t
theorem Db (k o:Nat)(O:Int)(hk:k<ts.length)(h1:isN (ts.drop k)=false)(h2:isA (ts.drop k)=false)(h3:isW bB (ts.drop k)=false)(h4:isW sLp (ts.drop k)=false)(h5:which [gX,iy] (ts.drop k)=some o):∃σ1 σ2 σ3 σ4:Sg,σ1=(Sg.mk (k+1) 0 O).run ts En (need sLp)/\σ2=σ1.run ts En (rd M .ex)/\σ3=σ2.run ts En (need sCm)/\σ4=σ3.run ts En (rd M .ex) /\
  (Sg.mk k 0 O).run ts En (factor M (rd M .ex))=σ4.run ts En (need sRp)/\(k+1<=ts.length/\k+1<=σ1.k/\σ1.k<=ts.length/\σ1.k<=σ2.k/\σ2.k<=ts.length/\σ2.k<=σ3.k/\σ3.k<=ts.length/\σ3.k<=σ4.k/\σ4.k<=ts.length) /\
  ∀u,(Sg.mk k 0 O).val ts (factor M (rd M .ex))=some u->∃a b,σ1.val ts (rd M .ex)=some a/\σ3.val ts (rd M .ex)=some b/\u = .mk (7+o) (ts.length-k) [] 0 0 1 [a,b]:=by
 have he:factor M (rd M .ex) (ts.drop k)=(fun t=>(need sLp t).bind fun _ r1=>(rd M .ex r1).bind fun a r2=>(need sCm r2).bind fun _ r3=>(rd M .ex r3).bind fun b r4=>(need sRp r4).bind fun _ r5=> .ok (Tree.mk (7+o) (ts.length-k) [] 0 0 1 [a,b]) r5) (ts.drop (k+1)):=by
  have hd:ts.drop k=ts[k]::ts.drop (k+1):=List.drop_eq_getElem_cons hk
  rw[hd] at h1 h2 h3 h4 h5 |-
  simp only[factor]
  rw[if_neg (by simpa[isN] using h1),if_neg (by rw[h2];simp),if_neg (by have:isT bB ts[k]=false:=h3;rw[this];simp),if_neg (by have:isT sLp ts[k]=false:=h4;rw[this];simp),h5]
  simp only[List.length_drop]
  rw[show ts.length-(k+1)+1=ts.length-k from zac]
 obtain⟨t1,t2⟩:=dM (ts:=ts) (En:=En) (k:=k) (O:=O) (o:=factor M (rd M .ex)) (o':=(fun t=>(need sLp t).bind fun _ r1=>(rd M .ex r1).bind fun a r2=>(need sCm r2).bind fun _ r3=>(rd M .ex r3).bind fun b r4=>(need sRp r4).bind fun _ r5=> .ok (Tree.mk (7+o) (ts.length-k) [] 0 0 1 [a,b]) r5)) he
 have k0:(Sg.mk (k+1) 0 O).k<=ts.length:=hk
 obtain⟨σ1,h1⟩:∃σ,σ=(Sg.mk (k+1) 0 O).run ts En (need sLp):=⟨_,rfl⟩
 have k1:=au (En:=En) (aJ sLp zah (ts.drop (Sg.mk (k+1) 0 O).k)) k0
 rw[<-h1] at k1
 obtain⟨σ2,h2⟩:∃σ,σ=σ1.run ts En (rd M .ex):=⟨_,rfl⟩
 have k2:=au (En:=En) (fe (M:=M) (ts.drop σ1.k)) k1.1
 rw[<-h2] at k2
 obtain⟨σ3,h3⟩:∃σ,σ=σ2.run ts En (need sCm):=⟨_,rfl⟩
 have k3:=au (En:=En) (aJ sCm zah (ts.drop σ2.k)) k2.1
 rw[<-h3] at k3
 obtain⟨σ4,h4⟩:∃σ,σ=σ3.run ts En (rd M .ex):=⟨_,rfl⟩
 have k4:=au (En:=En) (fe (M:=M) (ts.drop σ3.k)) k3.1
 rw[<-h4] at k4
 have k5:=au (En:=En) (aJ sRp zah (ts.drop σ4.k)) k4.1
 obtain⟨r1,r2⟩:=aQ (En:=En) () (fun _=>(σ1.val ts (rd M .ex)).bind fun a=>(σ2.val ts (need sCm)).bind fun _=>(σ3.val ts (rd M .ex)).bind fun b=>(σ4.val ts (need sRp)).bind fun _=>if (σ4.run ts En (need sRp)).E=0 then some (Tree.mk (7+o) (ts.length-k) [] 0 0 1 [a,b]) else none) (aJ sLp zah _) k0 h1 (fun _ _ =>
  aQ (En:=En) default (fun a=>(σ2.val ts (need sCm)).bind fun _=>(σ3.val ts (rd M .ex)).bind fun b=>(σ4.val ts (need sRp)).bind fun _=>if (σ4.run ts En (need sRp)).E=0 then some (Tree.mk (7+o) (ts.length-k) [] 0 0 1 [a,b]) else none) (fe _) k1.1 h2 (fun _ a =>
  aQ (En:=En) () (fun _=>(σ3.val ts (rd M .ex)).bind fun b=>(σ4.val ts (need sRp)).bind fun _=>if (σ4.run ts En (need sRp)).E=0 then some (Tree.mk (7+o) (ts.length-k) [] 0 0 1 [a,b]) else none) (aJ sCm zah _) k2.1 h3 (fun _ _ =>
  aQ (En:=En) default (fun b=>(σ4.val ts (need sRp)).bind fun _=>if (σ4.run ts En (need sRp)).E=0 then some (Tree.mk (7+o) (ts.length-k) [] 0 0 1 [a,b]) else none) (fe _) k3.1 h4 (fun _ b =>
  aQ (En:=En) () (fun _=>if (σ4.run ts En (need sRp)).E=0 then some (Tree.mk (7+o) (ts.length-k) [] 0 0 1 [a,b]) else none) (aJ sRp zah _) k4.1 rfl (fun hk _=>qA _ hk)))))
 refine⟨σ1,σ2,σ3,σ4,h1,h2,h3,h4,t1.trans r1,⟨hk,k1.2,k1.1,k2.2,k2.1,k3.2,k3.1,k4.2,k4.1⟩,fun u hu=>?_⟩
 rw[t2,r2] at hu
 simp only[Option.bind_eq_some_iff] at hu
 obtain⟨_,-,a,ha,_,-,b,hb,_,-,hu⟩:=hu
 split at hu
 ·simp only[Option.some.injEq] at hu
  exact⟨a,b,ha,hb,hu.symm⟩
 ·cases hu
end
end Go.Proofs.YtnjfolljbfkojaaGreatDoor
