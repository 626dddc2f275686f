import Derived.Test.YtnjfolljbfkojaaGreatDoorMAY
import Derived.Test.YtnjfolljbfkojaaGreatDoorMBC
import Derived.Test.YtnjfolljbfkojaaGreatDoorMBF
set_option maxRecDepth 100000
set_option maxHeartbeats 20000000
namespace Go.Proofs.YtnjfolljbfkojaaGreatDoor
open Go.Value renaming int→zI
open Go.IntKind renaming i64→zL
open Go.Lib renaming hid→zH
open Go.RowKit Lx Pa
theorem oJ (w:World):(Instr.typeAssert .nilIface 20 75 true).run Tryz.prog w = .ok (.tuple #[.agg #[zI zL 0,zI zL 0],.bool false]) w:=zab
theorem nu (a E:Int)(w:World):(Instr.typeAssert (.iface 75 (.agg #[zI zL a,zI zL E])) 20 75 true).run Tryz.prog w = .ok (.tuple #[.agg #[zI zL a,zI zL E],.bool true]) w:=zab
theorem pI (p1:Value)(w:World) :
  CallsD Tryz.prog 30 #[p1] .returning w fun e u' w'=>e = .returned (.tuple #[])/\u' = .returning/\RowKit.Below w.heap.size w w':=by
 refine callsD_of_wpS Tryz.func30 rfl fun c₀ cs hu=>?_
 apply wpS_seq
 apply wpS_region
 simp[wpOpsS,go_sem,recoverD,hu,Tryz.ntmps30,Exit.thenS,oJ]
 apply wpS_seq
 apply wpS_region
 simp[wpOpsS,go_sem,Exit.thenS]
 refine wpS_cond (t:=false) zcs ?_
 simp only[Bool.false_eq_true,if_false]
 refine wpS_of_wp (wp_skip ?_)
 cases c₀
 simp_all [bodyPostS,results,Tryz.results30]
 exact(Below.refl _ _).alloc (Nat.le_refl _) _
theorem De (b0:Nat)(a E:Int)(x0 x1:Value)(w:World)(h:At2 w b0 x0 x1) :
  CallsD Tryz.prog 30 #[.pointer (some ⟨b0,0,none⟩)] (.panicking (gK E a)) w fun e u' w' =>
   e = .returned (.tuple #[])/\u' = .panicking [{ v:= .iface 75 (.agg #[zI zL a,zI zL E]),recovered:=true }] /\
   At2 w' b0 (zI zL a) (zI zL E)/\Kept b0 w w':=by
 have hlt:b0<w.heap.size:=h.lt
 refine callsD_of_wpS Tryz.func30 rfl fun c₀ cs hu=>?_
 unfold gK at hu
 apply wpS_seq
 apply wpS_region
 simp[wpOpsS,go_sem,recoverD,hu,Tryz.ntmps30,Exit.thenS,nu]
 apply wpS_seq
 apply wpS_region
 simp[wpOpsS,go_sem,Exit.thenS]
 refine wpS_cond (t:=true) zcs ?_
 simp only[if_true]
 refine wpS_of_wp ?_
 refine Aa (a':={ tmps:=#[.pointer (some ⟨b0,0,none⟩),.pointer (some ⟨w.heap.size,0,none⟩),.bool true,.tuple #[.agg #[zI zL a,zI zL E],.bool true],.iface 75 (.agg #[zI zL a,zI zL E]),.tuple #[.agg #[zI zL a,zI zL E],.bool true],.agg #[zI zL a,zI zL E],.bool true,.bool true,undef],defers:=[] }) zab ?_
 have hB:RowKit.Below w.heap.size w (w.alloc (.cells #[zI zL a,zI zL E] 75)):=(Below.refl _ _).alloc (Nat.le_refl _) _
 have e0:(w.alloc (.cells #[zI zL a,zI zL E] 75)).cell? ⟨w.heap.size,0,none⟩=some (zI zL a):=by simp
 have e1:(w.alloc (.cells #[zI zL a,zI zL E] 75)).cell? ⟨w.heap.size,1,none⟩=some (zI zL E):=by simp
 have H:=zH (h.bel hB)
 obtain⟨h0,h1,f0,f1⟩:=H.out
 have HB:=zH hB
 have n0:¬w.heap.size=b0:=zac
 clear hB h
 generalize hg:w.heap.size=g at *
 generalize w.alloc (.cells #[zI zL a,zI zL E] 75)=W at *
 go_wp2_with fail
 refine⟨rfl,_,rfl,.tuple #[],by simp[results,Tryz.results30],rfl,rfl,?_,?_⟩
 ·exact⟨by simp[go_sem,h0],by simp[go_sem,h1],zcy,zcz⟩
 ·exact((Kept.of (by rw[hg];exact HB.out)).setCell 0 none _).setCell 1 none _
theorem jg {w:World}{b o:Nat}{v:Value}(h:w.cell? ⟨b,o,none⟩=some v):(w.setCell ⟨b,o,none⟩ v).heap[b]? = w.heap[b]?:=by
 unfold World.cell? at h
 simp only[World.setCell,Array.getElem?_modify,if_true]
 simp only at h
 cases hb:w.heap[b]? with
 | none=>rfl
 | some x =>
  rw[hb] at h
  cases x with
  | cells c e f =>
   replace h:c[o]? = some v:=zbt
   rw[Option.map_some]
   congr 1
   show Obj.cells (if (none:Option Nat).isSome then c else c.setIfInBounds o v) e f=_
   rw[if_neg (by simp)]
   congr 1
   obtain⟨ho,hv⟩:=Array.getElem?_eq_some_iff.1 h
   subst hv
   apply Array.ext_getElem?
   intro i
   rw[Array.getElem?_setIfInBounds]
   split
   ·rename_i e;subst e;exact h.symm
   ·rfl
  | _=>simp at h
theorem At2.same {w:World}{b:Nat}{x y:Value}(h:At2 w b x y):RowKit.Below w.heap.size w ((w.setCell ⟨b,0,none⟩ x).setCell ⟨b,1,none⟩ y):=by
 refine⟨rfl,rfl,rfl,zbb,fun k hk=>?_⟩
 by_cases e:k=b
 ·subst e
  refine(jg ?_).trans (jg h.c0)
  rw[World.cell?_setCell_other _ _ _ _ (by intro e;injection e with _ e2 _;cases e2)]
  exact h.c1
 ·exact(Below.heap_setCell _ _ _ _ e).trans (Below.heap_setCell _ _ _ _ e)
theorem gT (F:FuncId)(caps:Array Value)(hE:∀(args:Array Value) (w:World),(callFunc F args).run Tryz.prog w = .ok (.enter F args) w)(Q:World->Prop)(w:World)
  (HR:Calls Tryz.prog F caps (w.alloc (.cells #[zI zL 0,zI zL 0] 53)) fun e w'=>e = .returned (.tuple #[])/\At2 w' w.heap.size (zI zL 0) (zI zL 0)/\Q w') :
  Calls Tryz.prog 14 #[.func (.func F) #[] caps] w fun e w'=>e = .returned (.agg #[zI zL 0,zI zL 0])/\∃w2,Q w2/\RowKit.Below w2.heap.size w2 w':=by
 have hmf:∀(fn:Fn) (first cap:Array Value) (w:World),(Instr.makeFunc fn first cap).run Tryz.prog w = .ok (.func fn first cap) w:=fun _ _ _ _=>rfl
 have KR:=zH HR
 clear HR
 go_enter_defers Tryz.func14,Tryz.ntmps14
 go_wp2_with fail
 refine KR.out.mono ?_
 rintro _ w2 ⟨rfl,hA,hQ⟩
 have HQ:=zH hQ
 have HA:=zH hA
 obtain⟨c0,c1,f0,f1⟩:=hA
 clear hQ KR
 go_wp2_with fail
 refine leaves_cons (f:=30) (args:=#[.pointer (some ⟨w.heap.size,0,none⟩)]) (by simp) (by simp[go_sem]) ?_
 refine(pI _ _).mono ?_
 rintro e u' w3 ⟨rfl,rfl,hB⟩
 obtain⟨d0,d1,-,-⟩:=(HA.out.put (zI zL 0) (zI zL 0)).bel hB
 simp[Leaves,settle,results,Tryz.results14,go_sem,d0,d1]
 exact⟨w2,HQ.out,HA.out.same.trans (hB.mono HA.out.same.size)⟩
theorem sJ (F:FuncId)(caps:Array Value)(hE:∀(args:Array Value) (w:World),(callFunc F args).run Tryz.prog w = .ok (.enter F args) w)(Q:World->Prop)(w:World)
  (HR:Calls Tryz.prog F caps (w.alloc (.cells #[zI zL 0,zI zL 0] 53)) fun e w'=>e = .returned (.tuple #[])/\At2 w' w.heap.size (zI zL 0) (zI zL 0)/\Q w') :
  Calls Tryz.prog 14 #[.func (.func F) #[] caps] w fun e w'=>e = .returned (.agg #[zI zL 0,zI zL 0])/\∃w2,Q w2/\Kept w.heap.size w2 w' :=
 (gT F caps hE Q w HR).mono fun _ _ h=>⟨h.1,h.2.imp fun _ h=>⟨h.1,Kept.of h.2⟩⟩
theorem gF (F:FuncId)(caps:Array Value)(hE:∀(args:Array Value) (w:World),(callFunc F args).run Tryz.prog w = .ok (.enter F args) w)(E a:Int)(Q:World->Prop)(w:World)
  (HR:Calls Tryz.prog F caps (w.alloc (.cells #[zI zL 0,zI zL 0] 53)) fun e w'=>e = .panicked (gK E a)/\At2 w' w.heap.size (zI zL 0) (zI zL 0)/\Q w') :
  Calls Tryz.prog 14 #[.func (.func F) #[] caps] w fun e w'=>e = .returned (.agg #[zI zL a,zI zL E])/\∃w2,Q w2/\Kept w.heap.size w2 w':=by
 have hmf:∀(fn:Fn) (first cap:Array Value) (w:World),(Instr.makeFunc fn first cap).run Tryz.prog w = .ok (.func fn first cap) w:=fun _ _ _ _=>rfl
 have KR:=zH HR
 clear HR
 go_enter_defers Tryz.func14,Tryz.ntmps14
 go_wp2_with fail
 refine KR.out.mono ?_
 rintro _ w2 ⟨rfl,hA,hQ⟩
 have HQ:=zH hQ
 have HA:=zH hA
 clear hQ hA KR
 go_wp2_with fail
 refine leaves_cons (f:=30) (args:=#[.pointer (some ⟨w.heap.size,0,none⟩)]) (by simp) (by simp[go_sem]) ?_
 refine(De w.heap.size a E _ _ _ HA.out).mono ?_
 rintro e u' w3 ⟨rfl,rfl,⟨d0,d1,-,-⟩,hB⟩
 simp[Leaves,settle,results,Tryz.results14,go_sem,d0,d1]
 exact⟨w2,HQ.out,hB⟩
theorem ER {l:List UInt8}{E:Int}(h:nx Vh l = .er E)(hl:l≠[]):E≠0:=by
 cases l with
 | nil=>exact absurd rfl hl
 | cons c l =>
  simp only[nx] at h
  repeat' (split at h)
  all_goals first|(cases h;done)|(injection h with h;rw[<-h];decide)
theorem Dm:∀(f i:Nat) (l:List UInt8) (E:Int) (a:Nat),lx Vh f i l = .er E a->E≠0
 | 0,i,l,E,a,h=>by
  simp only[lx] at h
  split at h
  ·cases h
  ·injection h with h1 h2;rw[<-h1];decide
 | f+1,i,l,E,a,h=>by
  have hle:=iP l false
  simp only[lx] at h
  split at h
  ·cases h
  ·rename_i hne
   cases hn:nx Vh (l.drop (gp false l)) with
   | er e =>
    rw[hn] at h
    injection h with h1 h2
    rw[<-h1]
    refine ER hn (fun e=>?_)
    have:=congrArg List.length e
    rw[List.length_drop,List.length_nil] at this
    omega
   | ok t n =>
    rw[hn] at h
    simp only[] at h
    cases hr:lx Vh f (i+gp false l+n) (l.drop (gp false l+n)) with
    | ok us=>rw[hr] at h;cases h
    | er e' a' =>
     rw[hr] at h
     simp only[Res.app,Res.er.injEq] at h
     rw[<-h.1]
     exact Dm f _ _ _ _ hr
theorem lm {l:List UInt8}{E:Int}{a:Nat}(h:lex Vh l = .er E a):E≠0/\a<l.length/\∃ts,lex Vh (l.take a) = .ok ts:=by
 unfold lex at h
 split at h
 ·rename_i h8
  injection h with h1 h2
  subst h1 h2
  exact⟨zah,zac,[],rfl⟩
 ·rename_i h8
  obtain⟨b1,b2,ts,b3⟩:=Bv _ _ _ _ _ h
  refine⟨Dm _ _ _ _ _ h,zac,ts,?_⟩
  unfold lex
  rw[if_neg (by rw[List.length_take];omega)]
  simpa using b3
theorem Bn {l:List UInt8}{t:Tok}{n:Nat}(h:nx Vh l = .ok t n):(t.k=1\/t.k=2\/t.k=3)/\(t.k=2->t.t=[])/\(t.k=1->t.t≠sSc/\t.t≠sLp)/\-9223372036854775808<=t.n/\t.n<=9223372036854775807/\-9223372036854775808<=t.d/\t.d<=9223372036854775807:=by
 cases l with
 | nil=>cases h
 | cons c l =>
  simp only[nx] at h
  have hw:∀x:UInt8,(c::l).takeWhile wrd=[x]->c=x:=fun x hx=>by
   rw[List.takeWhile_cons] at hx
   split at hx
   ·injection hx
   ·cases hx
  split at h
  ·rename_i hl
   split at h
   ·cases h
   ·injection h with h1 h2
    subst h1
    refine⟨.inl rfl,(fun e=>by cases e),fun _=>⟨fun e=>?_,fun e=>?_⟩,zcu,zcx,zcu,zcx⟩
    ·have:=hw 59 e
     subst this
     exact absurd hl zah
    ·have:=hw 40 e
     subst this
     exact absurd hl zah
  ·split at h
   ·split at h
    ·split at h
     ·rename_i hv
      injection h with h1 h2
      subst h1
      obtain⟨p,q,hm⟩:∃p q,Vh (hun ((c::l).takeWhile nmb))=(p,q,0):=⟨_,_,by rw[<-hv]⟩
      have hq:Q.Val p q:=zJ (n:=(hun ((c::l).takeWhile nmb):Int)) (d:=100) zah (by unfold Vh at hm;exact hm)
      obtain⟨q1,q2,q3,q4,-⟩:=hq
      refine⟨.inr (.inl rfl),fun _=>rfl,(fun e=>by cases e),?_⟩
      simp only[hm]
      omega
     ·cases h
    ·cases h
   ·split at h
    ·cases h
    ·injection h with h1 h2
     subst h1
     exact⟨.inr (.inr rfl),(fun e=>by cases e),(fun e=>by cases e),zcu,zcx,zcu,zcx⟩
theorem wC:∀(f i:Nat) (l:List UInt8) (ts:List Tok),lx Vh f i l = .ok ts->eQ ts
 | 0,i,l,ts,h=>by
  simp only[lx] at h
  split at h
  ·injection h with h;subst h;intro t ht;cases ht
  ·cases h
 | f+1,i,l,ts,h=>by
  simp only[lx] at h
  split at h
  ·injection h with h;subst h;intro t ht;cases ht
  ·cases hn:nx Vh (l.drop (gp false l)) with
   | er e=>rw[hn] at h;cases h
   | ok t n =>
    rw[hn] at h
    simp only[] at h
    cases hr:lx Vh f (i+gp false l+n) (l.drop (gp false l+n)) with
    | er e' a'=>rw[hr] at h;cases h
    | ok us =>
     rw[hr] at h
     simp only[Res.app,Res.ok.injEq] at h
     subst h
     intro x hx
     rw[List.singleton_append,List.mem_cons] at hx
     rcases hx with rfl|hx
     ·have h1:=Bn hn
      exact h1
     ·exact wC f _ _ _ hr x hx
theorem lW {l:List UInt8}{ts:List Tok}(h:lex Vh l = .ok ts):eQ ts:=by
 unfold lex at h
 split at h
 ·cases h
 ·exact wC _ _ _ _ h
theorem nz (s:ByteArray)(hs:s.size<=281474976710656)(E:Int)(a:Nat)(h:lex Vh s.data.toList = .er E a)(w:World):Calls Tryz.prog 16 #[.string s] w fun e w'=>e = .panicked (gK E a)/\RowKit.Below w.heap.size w w':=by
 have KL:=zH (fun w=>vO s w hs)
 have hE:=(lm h).1
 have e1:(E==0)=false:=zcv
 rw[h] at KL
 clear h
 go_enter Tryz.func16,Tryz.ntmps16
 go_wp2_with fail
 refine(KL.out _).mono ?_
 rintro _ v ⟨q,bq,cap,n,rfl,-,-,hb⟩
 have HB:=zH hb
 clear hb KL
 simp only[Lx.Res.e,Lx.Res.a]
 go_wp2_with fail
 refine(lD _ _ _).mono ?_
 rintro _ _ ⟨rfl,rfl⟩
 go_wp2_with fail
 exact aa rfl ⟨rfl,HB.out⟩
theorem kw (s:ByteArray)(hs:s.size<=281474976710656)(ts:List Tok)(h:lex Vh s.data.toList = .ok ts)(w:World):Calls Tryz.prog 16 #[.string s] w fun e w'=>∃b p cap qb mb,e = .returned (.pointer (some ⟨b,0,none⟩))/\Rd w' b p cap qb ts s.size mb 0/\w.heap.size<=b/\RowKit.Below w.heap.size w w':=by
 have KL:=zH (fun w=>vO s w hs)
 have KO:=zH lY
 have HT:=zH (lW h)
 rw[h] at KL
 clear h
 go_enter Tryz.func16,Tryz.ntmps16
 go_wp2_with fail
 refine(KL.out _).mono ?_
 rintro _ v ⟨q,bq,cap,n,rfl,hsl,-,hb⟩
 have HB:=zH hb
 have HS:=zH hsl
 have hn:=hsl.ln
 clear hb hsl KL
 simp only[Lx.Res.e,Lx.Res.a,Lx.Res.tk] at HS hn |-
 subst hn
 go_wp2_with fail
 refine(KO.out _).mono ?_
 rintro _ v2 ⟨mb,rfl,hm,hmb,hb⟩
 have HB2:=zH (HB.out.trans (hb.mono HB.out.size))
 have HS2:=zH (HS.out.bel hb)
 have HM:=zH hm
 have hml:mb<v2.heap.size:=by
  rcases Nat.lt_or_ge mb v2.heap.size with z|z
  ·exact z
  ·rw[Array.getElem?_eq_none z] at hm;cases hm
 have hwv:=HB2.out.size
 clear hb hm HB HS KO
 go_wp2_with fail
 go_ret
 have bl:=(Below.refl v2.heap.size v2).alloc (Nat.le_refl _) (.cells #[.slice q ts.length cap,zI zL 0,zI zL (s.size:Nat),.map (some mb)] 81)
 have hB4:=B4.new v2 (.slice q ts.length cap) (zI zL 0) (zI zL (s.size:Nat)) (.map (some mb)) 81
 exact⟨v2.heap.size,q,cap,bq,mb,rfl,⟨hB4.c0,hB4.c1,hB4.c2,hB4.c3,hB4.f1,HS2.out.bel bl,fun z=>by have:=HS2.out.lt z;omega,vw _ HM.out,zac,Nat.zero_le _,HT.out⟩,hwv,HB2.out.trans (bl.mono hwv)⟩
theorem jc (t:Bool)(nm nm':List UInt8)(a5 b5:Bool)(a6 a7 a8 b6 b7 b8 lo hi fa lo' hi' fa':Int)(w:World) :
  Calls Tryz.prog 12 #[.agg #[.string (bs nm),.bool a5,zI zL a6,zI zL a7,zI zL a8,zI zL lo,zI zL hi,zI zL fa],.agg #[.string (bs nm'),.bool b5,zI zL b6,zI zL b7,zI zL b8,zI zL lo',zI zL hi',zI zL fa'],.bool t] w fun e w'=>e = .returned (.bool (nm==nm' && (a5==b5&&a6==b6&&a7==b7&&a8==b8)&&lo==lo' && hi==hi' && (!t||fa==fa')))/\RowKit.Below w.heap.size w w':=by
 have HR:=zH (Below.refl w.heap.size w)
 generalize hq:(nm==nm' && (a5==b5&&a6==b6&&a7==b7&&a8==b8)&&lo==lo' && hi==hi' && (!t||fa==fa'))=R
 by_cases hx:nm=nm'
 ·subst hx
  by_cases hx:a5=b5
  ·subst hx
   by_cases hx:a6=b6
   ·subst hx
    by_cases hx:a7=b7
    ·subst hx
     by_cases hx:a8=b8
     ·subst hx
      by_cases hx:lo=lo'
      ·subst hx
       by_cases hx:hi=hi'
       ·subst hx
        cases t with
        | false =>
         have HE:Hid (true=R):=by show _=_;rw[<-hq];simp
         clear hq
         exact xA
        | true =>
         by_cases hx:fa=fa'
         ·subst hx
          have HE:Hid (true=R):=by show _=_;rw[<-hq];simp
          clear hq
          exact xA
         ·have e1:(fa==fa')=false:=by simpa using hx
          have HE:Hid (false=R):=zci
          clear hq hx
          exact xA
       ·have e1:(hi==hi')=false:=by simpa using hx
        have HE:Hid (false=R):=zci
        clear hq hx
        exact xA
      ·have e1:(lo==lo')=false:=by simpa using hx
       have HE:Hid (false=R):=zci
       clear hq hx
       exact xA
     ·have e1:(a8==b8)=false:=by simpa using hx
      have HE:Hid (false=R):=zci
      clear hq hx
      exact xA
    ·have e1:(a7==b7)=false:=by simpa using hx
     have HE:Hid (false=R):=zci
     clear hq hx
     exact xA
   ·have e1:(a6==b6)=false:=by simpa using hx
    have HE:Hid (false=R):=zci
    clear hq hx
    exact xA
  ·have e1:(a5==b5)=false:=by simpa using hx
   have HE:Hid (false=R):=zci
   clear hq hx
   exact xA
 ·have e1:=wQ hx
  have HE:Hid (false=R):=zci
  clear hq hx
  exact xA
structure FrL (w v:World) (p:Option Addr) (n cap:Nat) (k En E O:Int) (Z:List Value):Prop where
 A:B5 v w.heap.size (.slice p n cap) (zI zL k) (zI zL En) (zI zL E) (zI zL O)
 N:aH v (w.heap.size+1) Z
 R:B5 v (w.heap.size+2) (.slice none 0 0) (zI zL 0) (zI zL 0) (zI zL 0) (zI zL 0)
 B:RowKit.Below w.heap.size w v
 L:0<Z.length
section
variable {w v V:World} {p:Option Addr} {n cap:Nat} {k En E O:Int} {Z:List Value}
theorem FrL.bel (h:FrL w v p n cap k En E O Z)(hb:RowKit.Below v.heap.size v V):FrL w V p n cap k En E O Z:=⟨h.A.bel hb,h.N.bel h.L hb,h.R.bel hb,h.B.trans (hb.mono h.B.size),h.L⟩
theorem FrL.inc (h:FrL w v p n cap k En E O Z)(k':Int):FrL w (v.setCell ⟨w.heap.size,1,none⟩ (zI zL k')) p n cap k' En E O Z/\Kept w.heap.size v (v.setCell ⟨w.heap.size,1,none⟩ (zI zL k')) :=
 ⟨⟨h.A.set1 _,h.N.other zac 1 _,h.R.other zac 1 none _,h.B.setCell (p:=⟨w.heap.size,1,none⟩) (Nat.le_refl _) _,h.L⟩,(Kept.refl _ _).setCell 1 none _⟩
theorem FrL.kept {r:Nat}(h:FrL w v p n cap k En E O Z)(hk:Kept r v V)(hr:w.heap.size+2<r):FrL w V p n cap k En E O Z :=
 ⟨h.A.kept hk zac,h.N.call h.L hk zac,h.R.kept hk zac,h.B.trans (hk.below zac h.B.size),h.L⟩
theorem FrL.put (h:FrL w v p n cap k En E O Z)(k' E' O':Int):FrL w (((((v.setCell ⟨w.heap.size,0,none⟩ (.slice p n cap)).setCell ⟨w.heap.size,1,none⟩ (zI zL k')).setCell ⟨w.heap.size,2,none⟩ (zI zL En)).setCell ⟨w.heap.size,3,none⟩ (zI zL E')).setCell ⟨w.heap.size,4,none⟩ (zI zL O')) p n cap k' En E' O' Z /\
  Kept w.heap.size v (((((v.setCell ⟨w.heap.size,0,none⟩ (.slice p n cap)).setCell ⟨w.heap.size,1,none⟩ (zI zL k')).setCell ⟨w.heap.size,2,none⟩ (zI zL En)).setCell ⟨w.heap.size,3,none⟩ (zI zL E')).setCell ⟨w.heap.size,4,none⟩ (zI zL O')):=by
 have hk:=(Kept.refl w.heap.size v).set5 (.slice p n cap) (zI zL k') (zI zL En) (zI zL E') (zI zL O')
 refine⟨⟨h.A.put _ _ _ _ _,h.N.call h.L hk zac,h.R.kept hk zac,h.B.trans (hk.below (Nat.le_refl _) h.B.size),h.L⟩,hk⟩
theorem FrL.new (w:World)(p:Option Addr)(n cap:Nat)(k En E O:Int)(Z:List Value)(hZ:0<Z.length)(T1 T2:Nat):FrL w (((w.alloc (.cells #[.slice p n cap,zI zL k,zI zL En,zI zL E,zI zL O] T1)).alloc (.cells Z.toArray T2)).alloc (.cells #[.slice none 0 0,zI zL 0,zI zL 0,zI zL 0,zI zL 0] T1)) p n cap k En E O Z:=by
 have h1:∀(v:World) (o:Obj),RowKit.Below v.heap.size v (v.alloc o):=fun v o=>(Below.refl _ _).alloc (Nat.le_refl _) o
 have s1:∀(v:World) (o:Obj),(v.alloc o).heap.size=v.heap.size+1:=fun v o=>by simp
 constructor
 ·exact((B5.new w _ _ _ _ _ T1).bel (h1 _ _)).bel (h1 _ _)
 ·have:=(aH.new (w.alloc (.cells #[.slice p n cap,zI zL k,zI zL En,zI zL E,zI zL O] T1)) Z T2).bel hZ (h1 _ (.cells #[.slice none 0 0,zI zL 0,zI zL 0,zI zL 0,zI zL 0] T1))
  rw[s1] at this
  exact this
 ·have:=B5.new ((w.alloc (.cells #[.slice p n cap,zI zL k,zI zL En,zI zL E,zI zL O] T1)).alloc (.cells Z.toArray T2)) (.slice none 0 0) (zI zL 0) (zI zL 0) (zI zL 0) (zI zL 0) T1
  rw[s1,s1] at this
  exact this
 ·exact Cv
 ·exact hZ
theorem aH.row {b:Nat}{l:List Value}(h:aH v b l)(j:Nat)(u:Value)(e:l[j]? = some u):v.cell? ⟨b,j,none⟩=some u:=(h j u e).1
def EX {α:Type}(V:α->List Value)(w:World)(p:Option Addr)(n cap:Nat)(k En E O:Int)(m:Nat)(t:Option α)(e:Ending)(w':World):Prop :=
 ∃l:List Value,l.length=m/\(∀u∈l,u.oneCell'=true)/\e = .returned (.tuple #[.agg l.toArray,.agg #[.slice p n cap,zI zL k,zI zL En,zI zL E,zI zL O]])/\(∀u,t=some u->l=V u)/\RowKit.Below w.heap.size w w'
end
end Go.Proofs.YtnjfolljbfkojaaGreatDoor
