import Derived.Test.YtnjfolljbfkojaaGreatDoorMAX
set_option maxRecDepth 100000
set_option maxHeartbeats 20000000
namespace Go.Proofs.YtnjfolljbfkojaaGreatDoor
open Go.Value renaming int→zI
open Go.IntKind renaming i64→zL
open Go.Lib renaming hid→zH
open Go.RowKit Lx
theorem kC (s:ByteArray)(i b:Nat)(w:World)(hA:At2 w b (.string s) (zI zL i))(hi:i<s.size)(F:FuncId)
  (hF:(ltr s[i]=true/\F=90)\/(ltr s[i]=false/\dgt s[i]=true/\F=92)\/(ltr s[i]=false/\dgt s[i]=false/\F=88))(v0 v1 v3 v4:Int)(v2:ByteArray)(j:Nat)
  (hK:∀w1,At2 w1 b (.string s) (zI zL i)->Calls Tryz.prog F #[.pointer (some ⟨b,0,none⟩)] w1 fun e w'=>e = .returned (.agg #[zI zL v0,zI zL v1,.string v2,zI zL v3,zI zL v4])/\Kept b w1 w'/\At2 w' b (.string s) (zI zL (j:Nat))) :
  Calls Tryz.prog 75 #[.pointer (some ⟨b,0,none⟩)] w fun e w'=>e = .returned (.agg #[zI zL v0,zI zL v1,.string v2,zI zL v3,zI zL v4])/\Kept b w w'/\At2 w' b (.string s) (zI zL (j:Nat)):=by
 have hb:=hA.lt
 have hmf:∀(fn:Fn) (first cap:Array Value) (w:World),(Instr.makeFunc fn first cap).run Tryz.prog w = .ok (.func fn first cap) w:=fun _ _ _ _=>rfl
 have KL:=zH (fT s[i])
 have KD:=zH (fu s[i])
 have K:=zH hK
 have H1:=zH (St.start hA)
 have d2:(i:Int)<(s.size:Int):=zac
 clear hK hA
 rcases hF with ⟨h1,rfl⟩|⟨h1,h2,rfl⟩|⟨h1,h2,rfl⟩
 ·rw[h1] at KL
  clear h1
  exact FD
 ·rw[h1] at KL
  rw[h2] at KD
  clear h1 h2
  exact FD
 ·rw[h1] at KL
  rw[h2] at KD
  clear h1 h2
  exact FD
theorem iE (s:ByteArray)(i b:Nat)(w:World)(hA:At2 w b (.string s) (zI zL i))(hi:i<s.size)(F:FuncId)
  (hF:(ltr s[i]=true/\F=90)\/(ltr s[i]=false/\dgt s[i]=true/\F=92)\/(ltr s[i]=false/\dgt s[i]=false/\F=88))(E:Int)
  (hK:∀w1,At2 w1 b (.string s) (zI zL i)->Calls Tryz.prog F #[.pointer (some ⟨b,0,none⟩)] w1 fun e w'=>e = .panicked (jk E i)/\Kept b w1 w') :
  Calls Tryz.prog 75 #[.pointer (some ⟨b,0,none⟩)] w fun e w'=>e = .panicked (jk E i)/\Kept b w w':=by
 have hb:=hA.lt
 have hmf:∀(fn:Fn) (first cap:Array Value) (w:World),(Instr.makeFunc fn first cap).run Tryz.prog w = .ok (.func fn first cap) w:=fun _ _ _ _=>rfl
 have KL:=zH (fT s[i])
 have KD:=zH (fu s[i])
 have K:=zH hK
 have H1:=zH (St.start hA)
 have d2:(i:Int)<(s.size:Int):=zac
 clear hK hA
 rcases hF with ⟨h1,rfl⟩|⟨h1,h2,rfl⟩|⟨h1,h2,rfl⟩
 ·rw[h1] at KL
  clear h1
  exact Fa
 ·rw[h1] at KL
  rw[h2] at KD
  clear h1 h2
  exact Fa
 ·rw[h1] at KL
  rw[h2] at KD
  clear h1 h2
  exact Fa
theorem dH {s:ByteArray}{i:Nat}(hi:i<s.size){l:List UInt8}(hl:s.data.toList.drop i=l):∃c r,l=c::r/\s[i]=c:=by
 have h:i<s.data.toList.length:=by rw[ay];exact hi
 refine⟨_,_,(hl.symm.trans (List.drop_eq_getElem_cons h)),?_⟩
 rw[bS s i hi,List.getD_eq_getElem?_getD,List.getElem?_eq_getElem h];rfl
theorem yK (s:ByteArray)(i b:Nat)(w:World)(hA:At2 w b (.string s) (zI zL i))(hi:i<s.size)(hs:s.size<=281474976710656)(l:List UInt8)(hl:s.data.toList.drop i=l)(t:Tok)(n:Nat)(hn:nx Vh l = .ok t n) :
  Calls Tryz.prog 75 #[.pointer (some ⟨b,0,none⟩)] w fun e w'=>e = .returned (fI (mov i t))/\Kept b w w'/\At2 w' b (.string s) (zI zL (i+n:Nat)):=by
 obtain⟨c,r,hcr,hc⟩:=dH hi hl
 rw[hcr] at hn
 simp only[nx] at hn
 by_cases h1:ltr c=true
 ·rw[if_pos h1] at hn
  split at hn
  ·cases hn
  ·rename_i h16
   injection hn with e1 e2
   subst e1 e2
   rw[<-hcr] at h16 |-
   have:mov i ⟨1,0,l.takeWhile wrd,0,0⟩=⟨1,i,l.takeWhile wrd,0,0⟩:=by unfold mov;simp
   rw[this]
   exact kC s i b w hA hi _ (Or.inl ⟨by rw[hc];exact h1,rfl⟩) _ _ _ _ _ _ fun w1 h=>Au s i b w1 _ h zac hs (by rw[hl]) zac
 ·rw[if_neg h1] at hn
  have h1':ltr c=false:=by simpa using h1
  by_cases h2:dgt c=true
  ·rw[if_pos h2] at hn
   split at hn
   ·rename_i hf
    split at hn
    ·rename_i hv
     injection hn with e1 e2
     subst e1 e2
     rw[<-hcr] at hf hv |-
     have:∀n d,mov i ⟨2,0,[],n,d⟩=⟨2,i,[],n,d⟩:=by intro n d;unfold mov;simp
     rw[this]
     exact kC s i b w hA hi _ (Or.inr (Or.inl ⟨by rw[hc];exact h1',by rw[hc];exact h2,rfl⟩)) _ _ _ _ _ _ fun w1 h=>ul s i b w1 _ h zac hs (by rw[hl]) hf _ _ (by rw[<-hv])
    ·cases hn
   ·cases hn
  ·rw[if_neg h2] at hn
   have h2':dgt c=false:=zcw
   split at hn
   ·cases hn
   ·rename_i h0
    injection hn with e1 e2
    subst e1 e2
    rw[<-hcr] at h0 |-
    have:mov i ⟨3,0,l.take (sgn l),0,0⟩=⟨3,i,l.take (sgn l),0,0⟩:=by unfold mov;simp
    rw[this]
    exact kC s i b w hA hi _ (Or.inr (Or.inr ⟨by rw[hc];exact h1',by rw[hc];exact h2',rfl⟩)) _ _ _ _ _ _ fun w1 h=>Cr s i b w1 l _ h zac hs hl rfl zac
theorem xE (s:ByteArray)(i b:Nat)(w:World)(hA:At2 w b (.string s) (zI zL i))(hi:i<s.size)(hs:s.size<=281474976710656)(l:List UInt8)(hl:s.data.toList.drop i=l)(E:Int)(hn:nx Vh l = .er E) :
  Calls Tryz.prog 75 #[.pointer (some ⟨b,0,none⟩)] w fun e w'=>e = .panicked (jk E i)/\Kept b w w':=by
 obtain⟨c,r,hcr,hc⟩:=dH hi hl
 rw[hcr] at hn
 simp only[nx] at hn
 by_cases h1:ltr c=true
 ·rw[if_pos h1] at hn
  split at hn
  ·rename_i h16
   injection hn with e1
   subst e1
   rw[<-hcr] at h16
   exact iE s i b w hA hi _ (Or.inl ⟨by rw[hc];exact h1,rfl⟩) _ fun w1 h=>Bh s i b w1 _ h zac hs (by rw[hl]) h16
  ·cases hn
 ·rw[if_neg h1] at hn
  have h1':ltr c=false:=by simpa using h1
  by_cases h2:dgt c=true
  ·rw[if_pos h2] at hn
   split at hn
   ·rename_i hf
    split at hn
    ·cases hn
    ·rename_i hv
     injection hn with e1
     subst e1
     rw[<-hcr] at hf hv
     exact iE s i b w hA hi _ (Or.inr (Or.inl ⟨by rw[hc];exact h1',by rw[hc];exact h2,rfl⟩)) _ fun w1 h=>rR s i b w1 _ h zac hs (by rw[hl]) hf _ _ _ rfl hv
   ·rename_i hf
    injection hn with e1
    subst e1
    rw[<-hcr] at hf
    exact iE s i b w hA hi _ (Or.inr (Or.inl ⟨by rw[hc];exact h1',by rw[hc];exact h2,rfl⟩)) _ fun w1 h=>rz s i b w1 _ h zac hs (by rw[hl]) (by simpa using hf)
  ·rw[if_neg h2] at hn
   have h2':dgt c=false:=zcw
   split at hn
   ·rename_i h0
    injection hn with e1
    subst e1
    rw[<-hcr] at h0
    exact iE s i b w hA hi _ (Or.inr (Or.inr ⟨by rw[hc];exact h1',by rw[hc];exact h2',rfl⟩)) _ fun w1 h=>Ah s i b w1 l h zac hs hl h0 (by rw[hcr];simp)
   ·cases hn
theorem Kept.own {b B:Nat}{w u v:World}(h:Kept b w u)(k:RowKit.Below B u v)(hB:w.heap.size<=B):Kept b w v :=
 ⟨k.os.trans h.os,k.tape.trans h.tape,k.output.trans h.output,Nat.le_trans h.size k.size,fun j hj hn=>(k.block j zac).trans (h.block j hj hn)⟩
theorem mD {V:Nat->Int×Int×Int}(f i:Nat)(l:List UInt8):lx V f i l=lx V f (i+gp false l) (l.drop (gp false l)):=by
 have hle:=iP l false
 by_cases h:gp false l=l.length
 ·rw[jT h,jT (by rw[List.drop_eq_nil_of_le zac];rfl)]
 ·obtain⟨d,_⟩:=fM l false zac
  cases f with
  | zero=>simp only[lx,d,Nat.add_zero,List.length_drop];rw[if_neg h,if_neg zac]
  | succ f=>simp only[lx,d,Nat.add_zero,Nat.zero_add,List.length_drop,List.drop_drop];rw[if_neg h,if_neg zac]
def Left (b:Nat)(w0:World)(R:Res)(e:Ending)(w':World):Prop :=
 match R with
 | .ok ts=>∃v,e = .returned v/\gL w' w0.heap.size v ts/\Kept b w0 w'
 | .er E a=>e = .panicked (jk E a)/\Kept b w0 w'
theorem Left.ok {b:Nat}{w0:World}{R:Res}{w':World}{v:Value}{ts:List Tok}(h:R = .ok ts)(h1:gL w' w0.heap.size v ts)(h2:Kept b w0 w'):Left b w0 R (.returned v) w':=by subst h;exact⟨v,rfl,h1,h2⟩
theorem Left.er {b:Nat}{w0:World}{R:Res}{w':World}{E:Int}{a:Nat}(h:R = .er E a)(h2:Kept b w0 w'):Left b w0 R (.panicked (jk E a)) w':=by subst h;exact⟨rfl,h2⟩
def Run (b:Nat)(w0:World)(s:ByteArray)(R:Res)(v:Value)(wr:World)(f j:Nat)(pre:List Tok):Prop :=
 Kept b w0 wr/\At2 wr b (.string s) (zI zL j)/\gL wr w0.heap.size v pre/\pre.length+f=2000/\j<=s.size/\gp false (s.data.toList.drop j)=0/\(lx Vh f j (s.data.toList.drop j)).app pre=R
theorem uZ {w:World}{base:Nat}{v:Value}{l:List Tok}(h:gL w base v l):∃q cap,v = .slice q l.length cap:=by
 obtain⟨_,h⟩:=h
 rcases h with ⟨rfl,h0⟩|⟨g,cap,cur,rfl,_⟩
 ·exact⟨none,0,by rw[h0]⟩
 ·exact⟨_,cap,rfl⟩
theorem sj (s:ByteArray)(b:Nat)(w:World)(hA:At2 w b (.string s) (zI zL 0))(hs:s.size<=281474976710656) :
  Calls Tryz.prog 54 #[.pointer (some ⟨b,0,none⟩)] w fun e w'=>Left b w (lex Vh s.data.toList) e w':=by
 have hb:=hA.lt
 have HA:=zH hA
 obtain⟨c0,c1,f0,f1⟩:=hA
 obtain⟨R,hR⟩:∃R,R=lex Vh s.data.toList:=⟨_,rfl⟩
 rw[<-hR]
 by_cases h8:8000<s.size
 ·have HR:Hid (R = .er 2 0):=by show _=_;rw[hR];unfold lex;rw[if_pos (by rw[ay];exact h8)]
  have d1:decide ((8000:Int)<(s.size:Int))=true:=decide_eq_true zac
  clear hR
  go_enter Tryz.func54,Tryz.ntmps54
  go_wp2_with fail
  have KF:=zH (fD s 2 0 b w HA.out)
  refine KF.out.mono ?_
  rintro _ _ ⟨rfl,rfl⟩
  go_wp2_with fail
  exact aa rfl (Left.er HR.out (Kept.refl _ _))
 ·have d1:decide ((8000:Int)<(s.size:Int))=false:=decide_eq_false zac
  have d2:¬(8000:Int)<(s.size:Int):=zac
  have HR:Hid (lx Vh 2000 0 s.data.toList=R):=by show _=_;rw[hR];unfold lex;rw[if_neg (by rw[ay];exact h8)]
  clear hR
  go_enter Tryz.func54,Tryz.ntmps54
  go_wp2_with fail
  have KS:=zH (qN s 0 b w HA.out zac hs)
  refine KS.out.mono ?_
  rintro _ w1 ⟨rfl,k1,a1⟩
  have H1:Hid (Run b w s R (.slice none 0 0) w1 2000 (0+gp false (s.data.toList.drop 0)) []):=by
   have hle:=iP s.data.toList false
   rw[ay] at hle
   refine⟨k1,a1,gL.empty _ _,rfl,by simpa using hle,?_,?_⟩
   ·exact Em
   ·rw[mF]
    simp only[List.drop_zero,Nat.zero_add]
    rw[<-HR.out,mD 2000 0 s.data.toList,Nat.zero_add]
  clear k1 a1 KS HR HA c0 c1 f0 f1
  generalize 0+gp false (s.data.toList.drop 0)=j0 at H1
  go_wp2_with fail
  go_loopg [3] 2000 (fun g v wr=>∃(f j:Nat) (pre:List Tok),f<=g/\Hid (Run b w s R v wr f j pre))
  case atStart=>exact⟨2000,j0,[],zac,H1⟩
  case round =>
   clear H1
   obtain⟨f,j,pre,hfg,H⟩:=hrel
   obtain⟨q,cap,hv⟩:=uZ H.out.2.2.1
   subst hv
   have c0:=H.out.2.1.c0
   have c1:=H.out.2.1.c1
   have hpl:=H.out.2.2.2.1
   by_cases hj:j<s.size
   ·have hjz:(j:Int)<(s.size:Int):=by omega
    have hjl:¬0=(s.data.toList.drop j).length:=by rw[List.length_drop,ay];omega
    cases f with
    | zero =>
     have HE:Hid (R = .er 2 j):=by
      have:=H.out.2.2.2.2.2.2
      simp only[lx,H.out.2.2.2.2.2.1] at this
      rw[if_neg hjl] at this
      exact this.symm
     have e1:((pre.length:Int)==2000)=true:=zai
     clear hjl
     go_wp2_with fail
     go_quiet (fail)
     go_wp2_with fail
     have KF:=zH (fD s 2 j b _ (H.out.2.1.bel (below_drewN (Below.refl _ _) nq)))
     refine KF.out.mono ?_
     rintro _ _ ⟨rfl,rfl⟩
     go_wp2_with fail
     exact aa rfl (Left.er HE.out (H.out.1.bel (below_drewN (Below.refl _ _) nq)))
    | succ f =>
     have e1:((pre.length:Int)==2000)=false:=zai
     cases hn:nx Vh (s.data.toList.drop j) with
     | er E =>
      have HE:Hid (R = .er E j):=by
       have:=H.out.2.2.2.2.2.2
       simp only[lx,H.out.2.2.2.2.2.1] at this
       rw[if_neg hjl,List.drop_zero,hn] at this
       exact this.symm
      have HN:=zH hn
      clear hjl hn
      go_wp2_with fail
      go_quiet (fail)
      go_wp2_with fail
      have KF:=zH (xE s j b _ (H.out.2.1.bel (below_drewN (Below.refl _ _) nq)) hj hs _ rfl E HN.out)
      refine KF.out.mono ?_
      rintro _ w2 ⟨rfl,k2⟩
      go_wp2_with fail
      exact aa rfl (Left.er HE.out ((H.out.1.bel (below_drewN (Below.refl _ _) nq)).trans k2))
     | ok t n =>
      have HE:Hid (((lx Vh f (j+n) (s.data.toList.drop (j+n))).app [mov (j:Nat) t]).app pre=R):=by
       have:=H.out.2.2.2.2.2.2
       simp only[lx,H.out.2.2.2.2.2.1] at this
       rw[if_neg hjl,List.drop_zero,hn] at this
       simp only[Nat.zero_add,Nat.add_zero,List.drop_drop] at this
       exact this
      have HN:=zH hn
      have hjn:j+n<=s.size:=by have:=(ja hn).2.1;rw[List.length_drop,ay] at this;omega
      clear hjl hn
      go_wp2_with fail
      go_quiet (fail)
      go_wp2_with fail
      have KT:=zH (yK s j b _ (H.out.2.1.bel (below_drewN (Below.refl _ _) nq)) hj hs _ rfl t n HN.out)
      refine KT.out.mono ?_
      rintro _ w2 ⟨rfl,k2,a2⟩
      have K2:=zH ((H.out.1.bel (below_drewN (Below.refl _ _) nq)).trans k2)
      have A2:=zH a2
      have O2:=zH ((H.out.2.2.1.below (below_drewN (Below.refl _ _) nq)).kept k2 hb)
      clear k2 a2 KT
      generalize mov (j:Int) t=tt at HE |-
      unfold fI
      have hw:=K2.out.size
      go_wp2_with (refine ou (by rfl) (.tmp 31) (.tmp 34) (by rfl) w.heap.size (.slice q pre.length cap) pre (by rfl) (O2.out.alloc _) w2.heap.size 1 tt (by rfl) (yA.new w2 tt _) zac zai ?_;intro v3 w3 h3 g3)
      have B3:=zH (((Below.refl w.heap.size w2).alloc hw _).trans ((O2.out.alloc _).grown g3 zai))
      have K3:=zH (K2.out.own B3.out (Nat.le_refl _))
      have A3:=zH (A2.out.below B3.out hb)
      have O3:=zH h3
      clear h3 g3 B3 K2 A2 O2 c0 c1
      have KS:=zH (qN s (j+n) b w3 A3.out hjn hs)
      refine KS.out.mono ?_
      rintro _ w4 ⟨rfl,k4,a4⟩
      have H4:Hid (Run b w s R v3 w4 f (j+n+gp false (s.data.toList.drop (j+n))) (pre++[tt])):=by
       have hle:=iP (s.data.toList.drop (j+n)) false
       rw[List.length_drop,ay] at hle
       have hd:s.data.toList.drop (j+n+gp false (s.data.toList.drop (j+n)))=(s.data.toList.drop (j+n)).drop (gp false (s.data.toList.drop (j+n))):=(List.drop_drop).symm
       refine⟨K3.out.trans k4,a4,O3.out.kept k4 hb,by rw[List.length_append,List.length_singleton];omega,zac,?_,?_⟩
       ·exact DC
       ·rw[hd,<-mD,<-pJ];exact HE.out
      clear k4 a4 K3 A3 O3 KS HE
      go_wp2_with fail
      go_roundg f
      case measure=>omega
      case rel=>exact⟨f,_,_,Nat.le_refl _,H4⟩
   ·have hjz:¬(j:Int)<(s.size:Int):=by omega
    have HE:Hid (R = .ok pre):=by
     have:=H.out.2.2.2.2.2.2
     rw[List.drop_eq_nil_of_le (by rw[ay];omega),jT rfl] at this
     simp only[Res.app,List.append_nil] at this
     exact this.symm
    go_wp2_with fail
    go_quiet (fail)
    go_wp2_with fail
    go_ret
    exact Left.ok HE.out (H.out.2.2.1.below (below_drewN (Below.refl _ _) _)) (H.out.1.bel (below_drewN (Below.refl _ _) _))
theorem sI (w:World):(Instr.typeAssert .nilIface 20 102 true).run Tryz.prog w = .ok (.tuple #[.agg #[zI zL 0,zI zL 0],.bool false]) w:=zab
theorem oQ (E a:Int)(w:World):(Instr.typeAssert (.iface 102 (.agg #[zI zL E,zI zL a])) 20 102 true).run Tryz.prog w = .ok (.tuple #[.agg #[zI zL E,zI zL a],.bool true]) w:=zab
theorem Aa {P:Program}{c:Code}{Q:Exit->Act->World->Prop}{a a':Act}{w:World}(h:a=a')(k:c.wp P Q a' w):c.wp P Q a w:=h▸k
theorem oW (p1 p2 p3:Value)(w:World) :
  CallsD Tryz.prog 53 #[p1,p2,p3] .returning w fun e u' w'=>e = .returned (.tuple #[])/\u' = .returning/\RowKit.Below w.heap.size w w':=by
 refine callsD_of_wpS Tryz.func53 rfl fun c₀ cs hu=>?_
 apply wpS_seq
 apply wpS_region
 simp[wpOpsS,go_sem,recoverD,hu,Tryz.ntmps53,Exit.thenS,sI]
 apply wpS_seq
 apply wpS_region
 simp[wpOpsS,go_sem,Exit.thenS]
 refine wpS_cond (t:=false) zcs ?_
 simp only[Bool.false_eq_true,if_false]
 refine wpS_of_wp (wp_skip ?_)
 cases c₀
 simp_all [bodyPostS,results,Tryz.results53]
 exact(Below.refl _ _).alloc (Nat.le_refl _) _
theorem D8 (b0:Nat)(E:Int)(a:Nat)(x0 x1 x2:Value)(w:World)(h0:w.cell? ⟨b0,0,none⟩=some x0)(h1:w.cell? ⟨b0+1,0,none⟩=some x1)(h2:w.cell? ⟨b0+2,0,none⟩=some x2)
  (f0:w.frozen? ⟨b0,0,none⟩=false)(f1:w.frozen? ⟨b0+1,0,none⟩=false)(f2:w.frozen? ⟨b0+2,0,none⟩=false) :
  CallsD Tryz.prog 53 #[.pointer (some ⟨b0,0,none⟩),.pointer (some ⟨b0+1,0,none⟩),.pointer (some ⟨b0+2,0,none⟩)] (.panicking (jk E a)) w fun e u' w' =>
   e = .returned (.tuple #[])/\u' = .panicking [{ v:= .iface 102 (.agg #[zI zL E,zI zL a]),recovered:=true }] /\
   (w'.cell? ⟨b0,0,none⟩=some (.slice none 0 0)/\w'.cell? ⟨b0+1,0,none⟩=some (zI zL E)/\w'.cell? ⟨b0+2,0,none⟩=some (zI zL a))/\RowKit.Below b0 w w':=by
 have hlt:b0+2<w.heap.size:=World.block_lt_of_cell? _ _ h2
 refine callsD_of_wpS Tryz.func53 rfl fun c₀ cs hu=>?_
 unfold jk at hu
 apply wpS_seq
 apply wpS_region
 simp[wpOpsS,go_sem,recoverD,hu,Tryz.ntmps53,Exit.thenS,oQ]
 apply wpS_seq
 apply wpS_region
 simp[wpOpsS,go_sem,Exit.thenS]
 refine wpS_cond (t:=true) zcs ?_
 simp only[if_true]
 refine wpS_of_wp ?_
 refine Aa (a':={ tmps:=#[.pointer (some ⟨b0,0,none⟩),.pointer (some ⟨b0+1,0,none⟩),.pointer (some ⟨b0+2,0,none⟩),.pointer (some ⟨w.heap.size,0,none⟩),.bool true,.tuple #[.agg #[zI zL E,zI zL a],.bool true],.iface 102 (.agg #[zI zL E,zI zL a]),.tuple #[.agg #[zI zL E,zI zL a],.bool true],.agg #[zI zL E,zI zL a],.bool true,.bool true,undef,undef,undef,undef],defers:=[] }) zab ?_
 have hB:RowKit.Below w.heap.size w (w.alloc (.cells #[zI zL E,zI zL a] 102)):=(Below.refl _ _).alloc (Nat.le_refl _) _
 have e0:(w.alloc (.cells #[zI zL E,zI zL a] 102)).cell? ⟨w.heap.size,0,none⟩=some (zI zL E):=by simp
 have e1:(w.alloc (.cells #[zI zL E,zI zL a] 102)).cell? ⟨w.heap.size,1,none⟩=some (zI zL a):=by simp
 replace h0:=(hB.cell (p:=⟨b0,0,none⟩) (by show b0<_;omega)).trans h0
 replace h1:=(hB.cell (p:=⟨b0+1,0,none⟩) (by show b0+1<_;omega)).trans h1
 replace h2:=(hB.cell (p:=⟨b0+2,0,none⟩) (by show b0+2<_;omega)).trans h2
 replace f0:=(hB.frozen (p:=⟨b0,0,none⟩) (by show b0<_;omega)).trans f0
 replace f1:=(hB.frozen (p:=⟨b0+1,0,none⟩) (by show b0+1<_;omega)).trans f1
 replace f2:=(hB.frozen (p:=⟨b0+2,0,none⟩) (by show b0+2<_;omega)).trans f2
 have HB:=zH hB
 have n0:¬w.heap.size=b0:=zac
 have n1:¬w.heap.size=b0+1:=zac
 have n2:¬w.heap.size=b0+2:=zac
 clear hB
 generalize hg:w.heap.size=g at *
 generalize w.alloc (.cells #[zI zL E,zI zL a] 102)=W at *
 clear hg
 go_region
 have q0:∀(W:World) (b o:Nat) (v x:Value) (c:Addr),W.cell? ⟨b,o,none⟩=some x->¬c=⟨b,o,none⟩->(W.setCell c v).cell? ⟨b,o,none⟩=some x:=fun W b o v x c h hn=>by
  rw[World.cell?_setCell_other _ _ _ _ (by first|exact hn|exact fun e=>hn e.symm)];exact h
 refine⟨rfl,_,rfl,.tuple #[],by simp[results,Tryz.results53],rfl,rfl,⟨?_,?_,?_⟩,?_⟩
 ·show((((W.setCell _ _).setCell _ _).setCell _ _).cell? _)=_
  simp[go_sem,h0]
 ·show((((W.setCell _ _).setCell _ _).setCell _ _).cell? _)=_
  simp[go_sem,h1]
 ·show((((W.setCell _ _).setCell _ _).setCell _ _).cell? _)=_
  simp[go_sem,h2]
 ·refine Below.drew ?_
  exact((((HB.out.mono (by show b0<=g;omega)).setCell (p:=⟨b0,0,none⟩) (Nat.le_refl b0) _).setCell (p:=⟨b0+1,0,none⟩) (by show b0<=b0+1;omega) _).setCell (p:=⟨b0+2,0,none⟩) (by show b0<=b0+2;omega) _)
def _root_.Go.Proofs.YtnjfolljbfkojaaGreatDoor.Lx.Res.tk:Res->List Tok
 | .ok l=>l
 | .er _ _=>[]
def _root_.Go.Proofs.YtnjfolljbfkojaaGreatDoor.Lx.Res.e:Res->Int
 | .ok _=>0
 | .er e _=>e
def _root_.Go.Proofs.YtnjfolljbfkojaaGreatDoor.Lx.Res.a:Res->Nat
 | .ok _=>0
 | .er _ a=>a
def Gives (w:World)(R:Res)(e:Ending)(w':World):Prop:=∃q b cap n,e = .returned (.tuple #[.slice q n cap,zI zL R.e,zI zL (R.a:Nat)])/\SlT w' q b 0 n R.tk/\n<=cap/\RowKit.Below w.heap.size w w'
theorem ib {V:Nat->Int×Int×Int}{l:List UInt8}{ts:List Tok}(h:lex V l = .ok ts):ts.length<=2000:=by
 unfold lex at h
 split at h
 ·cases h
 ·exact(Co _ _ _ _ h).1
theorem aW (w:World)(o:Obj)(a:Addr)(h:a.block<w.heap.size):(w.alloc o).cell? a=w.cell? a:=((Below.refl _ w).alloc (Nat.le_refl _) o).cell h
theorem cB (w:World)(o:Obj)(a:Addr)(h:a.block<w.heap.size):(w.alloc o).frozen? a=w.frozen? a:=((Below.refl _ w).alloc (Nat.le_refl _) o).frozen h
theorem qC (w:World)(x:Value)(T:Nat):(w.alloc (.cells #[x] T)).cell? ⟨w.heap.size,0,none⟩=some x:=by simp
theorem lI (w:World)(x:Value)(T:Nat):(w.alloc (.cells #[x] T)).frozen? ⟨w.heap.size,0,none⟩=false:=by simp
def tH (w:World)(s:ByteArray):World:=(((w.alloc (.cells #[.slice none 0 0] 58)).alloc (.cells #[zI zL 0] 37)).alloc (.cells #[zI zL 0] 3)).alloc (.cells #[.string s,zI zL 0] 105)
theorem tu (w:World)(s:ByteArray):RowKit.Below w.heap.size w (tH w s)/\(tH w s).cell? ⟨w.heap.size,0,none⟩=some (.slice none 0 0)/\(tH w s).cell? ⟨w.heap.size+1,0,none⟩=some (zI zL 0)/\(tH w s).cell? ⟨w.heap.size+2,0,none⟩=some (zI zL 0) /\
  (tH w s).frozen? ⟨w.heap.size,0,none⟩=false/\(tH w s).frozen? ⟨w.heap.size+1,0,none⟩=false/\(tH w s).frozen? ⟨w.heap.size+2,0,none⟩=false/\At2 (tH w s) (w.heap.size+3) (.string s) (zI zL 0)/\(tH w s).heap.size=w.heap.size+4:=by
 unfold tH
 refine⟨((((Below.refl _ _).alloc (Nat.le_refl _) _).alloc (by simp) _).alloc zar _).alloc zar _,?_,?_,?_,?_,?_,?_,?_,?_⟩
 ·rw[aW _ _ _ zar,aW _ _ _ zar,aW _ _ _ (by simp)];simp
 ·rw[aW _ _ _ zar,aW _ _ _ (by simp)]
  have:=qC (w.alloc (.cells #[.slice none 0 0] 58)) (zI zL 0) 37
  rwa [World.size_alloc] at this
 ·rw[aW _ _ _ (by simp)]
  have:=qC ((w.alloc (.cells #[.slice none 0 0] 58)).alloc (.cells #[zI zL 0] 37)) (zI zL 0) 3
  rwa [World.size_alloc,World.size_alloc] at this
 ·rw[cB _ _ _ zar,cB _ _ _ zar,cB _ _ _ (by simp)];simp
 ·rw[cB _ _ _ zar,cB _ _ _ (by simp)]
  have:=lI (w.alloc (.cells #[.slice none 0 0] 58)) (zI zL 0) 37
  rwa [World.size_alloc] at this
 ·rw[cB _ _ _ (by simp)]
  have:=lI ((w.alloc (.cells #[.slice none 0 0] 58)).alloc (.cells #[zI zL 0] 37)) (zI zL 0) 3
  rwa [World.size_alloc,World.size_alloc] at this
 ·have:=At2.new (((w.alloc (.cells #[.slice none 0 0] 58)).alloc (.cells #[zI zL 0] 37)).alloc (.cells #[zI zL 0] 3)) (.string s) (zI zL 0) 105
  rwa [World.size_alloc,World.size_alloc,World.size_alloc] at this
 ·simp
theorem vO (s:ByteArray)(w:World)(hs:s.size<=281474976710656):Calls Tryz.prog 31 #[.string s] w fun e w'=>Gives w (lex Vh s.data.toList) e w':=by
 have hmf:∀(fn:Fn) (first cap:Array Value) (w:World),(Instr.makeFunc fn first cap).run Tryz.prog w = .ok (.func fn first cap) w:=fun _ _ _ _=>rfl
 have KT:=zH (fun b w hA=>sj s b w hA hs)
 have HL:=zH (fun ts (h:lex Vh s.data.toList = .ok ts)=>ib h)
 generalize lex Vh s.data.toList=R at *
 go_enter_defers Tryz.func31,Tryz.ntmps31
 go_wp2_with fail
 have hF:=tu w s
 change Calls Tryz.prog 54 #[.pointer (some ⟨w.heap.size+3,0,none⟩)] (tH w s) fun e w'=>_
 have HK:=zH (KT.out _ _ hF.2.2.2.2.2.2.2.1)
 generalize tH w s=W at *
 obtain⟨fB,fc0,fc1,fc2,ff0,ff1,ff2,fA,fsz⟩:=hF
 have HB:=zH fB
 refine HK.out.mono ?_
 intro e w2 hL
 have hkept:∀k o,k<W.heap.size->k≠w.heap.size+3->Kept (w.heap.size+3) W w2->w2.cell? ⟨k,o,none⟩=W.cell? ⟨k,o,none⟩/\w2.frozen? ⟨k,o,none⟩=W.frozen? ⟨k,o,none⟩:=fun k o h1 h2 h =>
  ⟨World.cell?_of_block (w:=W) (a:=⟨k,o,none⟩) (h.block k h1 h2),World.frozen?_of_block (w:=W) (a:=⟨k,o,none⟩) (h.block k h1 h2)⟩
 have HKp:=zH hkept
 clear hkept fA HK KT
 cases R with
 | ok ts =>
  obtain⟨v,rfl,hO,hK⟩:=hL
  have ho:=gL.reads hO (by have:=HL.out ts rfl;omega)
  have c0:=(HKp.out w.heap.size 0 zac zac hK).1.trans fc0
  have c1:=(HKp.out (w.heap.size+1) 0 zac zac hK).1.trans fc1
  have c2:w2.cell? ⟨w.heap.size+1+1,0,none⟩=_:=(HKp.out (w.heap.size+2) 0 zac zac hK).1.trans fc2
  have f0:=(HKp.out w.heap.size 0 zac zac hK).2.trans ff0
  have f1:=(HKp.out (w.heap.size+1) 0 zac zac hK).2.trans ff1
  have f2:w2.frozen? ⟨w.heap.size+1+1,0,none⟩=_:=(HKp.out (w.heap.size+2) 0 zac zac hK).2.trans ff2
  have HO:=zH hO
  obtain⟨q,bb,cap,n,rfl,hsl,hnc,hbb⟩:=ho
  have HQ:=zH hsl
  have HK2:=zH hK
  have hz2:=hK.size
  clear hO hsl hK fc0 fc1 fc2 ff0 ff1 ff2 fB HKp HL
  go_wp2_with fail
  refine leaves_cons (f:=53) (args:=#[.pointer (some ⟨w.heap.size,0,none⟩),.pointer (some ⟨w.heap.size+1,0,none⟩),.pointer (some ⟨w.heap.size+1+1,0,none⟩)]) (by simp) (by simp[go_sem]) ?_
  refine(oW _ _ _ _).mono ?_
  rintro e u' w3 ⟨rfl,rfl,hB⟩
  have d0:w3.cell? ⟨w.heap.size,0,none⟩=some (.slice q n cap):=(hB.cell (p:=⟨w.heap.size,0,none⟩) (by simp[World.setCell];omega)).trans (by simp[go_sem,c0])
  have d1:w3.cell? ⟨w.heap.size+1,0,none⟩=some (zI zL 0):=(hB.cell (p:=⟨w.heap.size+1,0,none⟩) (by simp[World.setCell];omega)).trans (by simp[go_sem,c1])
  have d2:w3.cell? ⟨w.heap.size+1+1,0,none⟩=some (zI zL 0):=(hB.cell (p:=⟨w.heap.size+1+1,0,none⟩) (by simp[World.setCell];omega)).trans (by simp[go_sem,c2])
  have hB2:=(hB.mono (B':=w.heap.size) (by simp[World.setCell];omega))
  have hB3:RowKit.Below w.heap.size w2 w3:=by
   refine Below.trans ?_ hB2
   repeat' (first|exact Below.refl _ _|refine Below.setCell ?_ (by first|exact Nat.le_refl _|(simp;done)|(simp;omega)) _)
  simp[Leaves,settle,results,Tryz.results31,go_sem,d0,d1,d2]
  refine⟨q,bb,cap,n,rfl,HQ.out.of_block (fun hn=>?_) ?_,hnc,(HB.out.trans (HK2.out.below zac zac)).trans hB3⟩
  ·have h1:=HQ.out.lt hn
   have h2:=hbb hn
   refine(hB.block bb (by simp[World.setCell];omega)).trans ?_
   rw[Below.heap_setCell _ ⟨w.heap.size+1+1,0,none⟩ _ _ (by show bb≠w.heap.size+1+1;omega),Below.heap_setCell _ ⟨w.heap.size+1,0,none⟩ _ _ (by show bb≠w.heap.size+1;omega),Below.heap_setCell _ ⟨w.heap.size,0,none⟩ _ _ (by show bb≠w.heap.size;omega)]
  ·exact hB3.size
 | er E a =>
  obtain⟨rfl,hK⟩:=hL
  have c0:=(HKp.out w.heap.size 0 zac zac hK).1.trans fc0
  have c1:=(HKp.out (w.heap.size+1) 0 zac zac hK).1.trans fc1
  have c2:w2.cell? ⟨w.heap.size+1+1,0,none⟩=_:=(HKp.out (w.heap.size+2) 0 zac zac hK).1.trans fc2
  have f0:=(HKp.out w.heap.size 0 zac zac hK).2.trans ff0
  have f1:=(HKp.out (w.heap.size+1) 0 zac zac hK).2.trans ff1
  have f2:w2.frozen? ⟨w.heap.size+1+1,0,none⟩=_:=(HKp.out (w.heap.size+2) 0 zac zac hK).2.trans ff2
  have hz2:=hK.size
  have HK2:=zH hK
  go_wp2_with fail
  refine leaves_cons (f:=53) (args:=#[.pointer (some ⟨w.heap.size,0,none⟩),.pointer (some ⟨w.heap.size+1,0,none⟩),.pointer (some ⟨w.heap.size+2,0,none⟩)]) (by simp) (by simp[go_sem]) ?_
  refine(D8 w.heap.size E a _ _ _ _ c0 c1 c2 f0 f1 f2).mono ?_
  rintro e u' w3 ⟨rfl,rfl,⟨d0,d1,d2⟩,hB⟩
  simp[Leaves,settle,results,Tryz.results31,go_sem,d0,d1,d2]
  exact⟨none,0,0,0,rfl,SlT.nil _ _,Nat.le_refl _,(HB.out.trans (HK2.out.below zac zac)).trans hB⟩
theorem rG (c:UInt8)(w:World):Calls Tryz.prog 60 #[.int .u8 c.toNat] w fun e w'=>e = .returned (.bool (blk c))/\w'=w:=by
 obtain⟨r,hr⟩:∃r,r=blk c:=⟨_,rfl⟩
 rw[<-hr]
 unfold blk at hr
 generalize c.toNat=n at *
 by_cases h32:n=32
 ·have e32:((n:Int)==32)=true:=by subst h32;rfl
  have e9:((n:Int)==9)=false:=by subst h32;rfl
  have e10:((n:Int)==10)=false:=by subst h32;rfl
  have e13:((n:Int)==13)=false:=by subst h32;rfl
  have HR:Hid (r=true):=by show _=_;rw[hr];simp[h32]
  exact Ed
 by_cases h9:n=9
 ·have e32:((n:Int)==32)=false:=by subst h9;rfl
  have e9:((n:Int)==9)=true:=by subst h9;rfl
  have e10:((n:Int)==10)=false:=by subst h9;rfl
  have e13:((n:Int)==13)=false:=by subst h9;rfl
  have HR:Hid (r=true):=by show _=_;rw[hr];simp[h9]
  exact Ed
 by_cases h10:n=10
 ·have e32:((n:Int)==32)=false:=by subst h10;rfl
  have e9:((n:Int)==9)=false:=by subst h10;rfl
  have e10:((n:Int)==10)=true:=by subst h10;rfl
  have e13:((n:Int)==13)=false:=by subst h10;rfl
  have HR:Hid (r=true):=by show _=_;rw[hr];simp[h10]
  exact Ed
 by_cases h13:n=13
 ·have e32:((n:Int)==32)=false:=by subst h13;rfl
  have e9:((n:Int)==9)=false:=by subst h13;rfl
  have e10:((n:Int)==10)=false:=by subst h13;rfl
  have e13:((n:Int)==13)=true:=by subst h13;rfl
  have HR:Hid (r=true):=by show _=_;rw[hr];simp[h13]
  exact Ed
 have e32:((n:Int)==32)=false:=zai
 have e9:((n:Int)==9)=false:=zai
 have e10:((n:Int)==10)=false:=zai
 have e13:((n:Int)==13)=false:=zai
 have HR:Hid (r=false):=by show _=_;rw[hr];simp[h32,h9,h10,h13]
 exact Ed
def prt (b:Bool)(c:UInt8):Bool:=if b=true then nmb c else wrd c
theorem eB (c:UInt8)(b:Bool)(w:World):Calls Tryz.prog 64 #[.int .u8 c.toNat,.bool b] w fun e w'=>e = .returned (.bool (prt b c))/\w'=w:=by
 have K:=zH (bT c)
 have K2:=zH (aZ c)
 obtain⟨r,hr⟩:∃r,r=prt b c:=⟨_,rfl⟩
 rw[<-hr]
 unfold prt nmb wrd at hr
 have HR:=zH hr
 clear hr
 generalize ltr c=x at *
 generalize dgt c=y at *
 generalize c.toNat=n at *
 cases x
 ·cases y
  ·by_cases h:n=95
   ·have e1:((n:Int)==95)=true:=by simp;omega
    have HH:=zH h
    clear h
    exact DU
   ·have e1:((n:Int)==95)=false:=by simp;omega
    cases b
    ·go_enter Tryz.func64,Tryz.ntmps64
     go_wp2_with (first|((with_reducible refine(K.out _).mono ?_);rintro _ _ ⟨rfl,rfl⟩)|((with_reducible refine(K2.out _).mono ?_);rintro _ _ ⟨rfl,rfl⟩))
     go_ret
     exact⟨aD (by rw[HR.out];simp[h]),rfl⟩
    ·by_cases h2:n=46
     ·have e2:((n:Int)==46)=true:=by simp;omega
      have HH:=zH h2
      clear h2
      exact DU
     ·have e2:((n:Int)==46)=false:=by simp;omega
      go_enter Tryz.func64,Tryz.ntmps64
      go_wp2_with (first|((with_reducible refine(K.out _).mono ?_);rintro _ _ ⟨rfl,rfl⟩)|((with_reducible refine(K2.out _).mono ?_);rintro _ _ ⟨rfl,rfl⟩))
      go_ret
      exact⟨aD (by rw[HR.out];simp[h,h2]),rfl⟩
  ·exact CZ
 ·exact CZ
theorem Dr (b:Bool)(r:List UInt8){c:UInt8}(h:c.toNat=10):gp b (c::r)=1+gp false r:=by
 have hb:blk c=true:=by unfold blk;simp[h]
 cases b
 ·simp only[gp];rw[if_neg zac,if_pos hb]
 ·simp only[gp];rw[if_pos h]
theorem Ap (b:Bool)(r:List UInt8){c:UInt8}(h:c.toNat=35):gp b (c::r)=1+gp true r:=by
 cases b
 ·simp only[gp];rw[if_pos h]
 ·simp only[gp];rw[if_neg zac]
theorem Fh (r:List UInt8){c:UInt8}(h:c.toNat≠10):gp true (c::r)=1+gp true r:=by simp only[gp];rw[if_neg h]
theorem nX (s:ByteArray)(i:Nat)(w:World)(hi:i<=s.size)(hs:s.size<=281474976710656) :
  Calls Tryz.prog 38 #[.string s,zI zL i] w fun e w'=>e = .returned (zI zL (i+gp false (s.data.toList.drop i):Nat))/\w'=w:=by
 obtain⟨l,hl⟩:∃l,l=s.data.toList:=⟨_,rfl⟩
 have hsz:s.size=l.length:=by rw[hl];simp
 have hget:Hid (∀i (h:i<s.size),s[i]=l.getD i 0):=fun i h=>by rw[hl];exact bS s i h
 rw[<-hl]
 obtain⟨G,hG⟩:∃G,G=i+gp false (l.drop i):=⟨_,rfl⟩
 rw[<-hG]
 have HG:=zH hG
 have HZ:=zH hsz
 obtain⟨N,hN⟩:∃N,N=s.size:=⟨_,rfl⟩
 have HN:=zH hN
 clear hl hG hsz
 go_enter Tryz.func38,Tryz.ntmps38
 go_wp2_with fail
 go_loopg [1,5] N (fun g s1 s5 wr=>∃(k:Nat) (b:Bool),s1 = zI zL k/\s5 = .bool b/\k<=N/\N-k<=g/\Hid (k+gp b (l.drop k)=G)/\wr=w)
 case atStart=>exact⟨i,false,rfl,rfl,zac,zac,HG.out.symm,rfl⟩
 case round =>
  obtain⟨k,b,rfl,rfl,hk,hkg,HI,rfl⟩:=hrel
  by_cases hlt:k<s.size
  ·have hltz:(k:Int)<(s.size:Int):=by omega
   have hkl:k<l.length:=by rw[<-HZ.out];exact hlt
   have hc:=hget.out k hlt
   have hd:=iD hkl
   rw[<-hc] at hd
   have KB:=zH (rG s[k])
   by_cases h10:s[k].toNat=10
   ·have hb:blk s[k]=true:=by unfold blk;simp[h10]
    rw[hb] at KB
    clear hb
    cases b
    ·exact zz76
    ·exact zz76
   ·have e10:((s[k].toNat:Int)==10)=false:=by simp;omega
    by_cases h35:s[k].toNat=35
    ·cases b
     ·exact zz81
     ·exact zz81
    ·have e35:((s[k].toNat:Int)==35)=false:=by simp;omega
     cases b
     ·cases hb:blk s[k] with
      | false =>
       have H2:Hid (k=G):=by have:=HI.out;rw[ww hkl (by rw[<-hc];exact hb) (by rw[<-hc];exact h35)] at this;exact this
       rw[hb] at KB
       clear hd hc hb
       go_wp2_with ((with_reducible refine(KB.out _).mono ?_);rintro _ _ ⟨rfl,rfl⟩)
       go_ret
       exact⟨bg (by rw[H2.out]),rfl⟩
      | true =>
       have H2:Hid (k+1+gp false (l.drop (k+1))=G):=by have:=HI.out;rw[qX hkl (by rw[<-hc];exact hb)] at this;show _=_;omega
       rw[hb] at KB
       clear hd hc hb
       go_wp2_with ((with_reducible refine(KB.out _).mono ?_);rintro _ _ ⟨rfl,rfl⟩)
       go_roundg (N-(k+1))
       case measure=>omega
       case rel=>exact⟨k+1,false,by go_num,rfl,zac,zac,H2,rfl⟩
     ·have H2:Hid (k+1+gp true (l.drop (k+1))=G):=by have:=HI.out;rw[hd,Fh _ h10] at this;show _=_;omega
      clear hd hc
      go_wp2_with ((with_reducible refine(KB.out _).mono ?_);rintro _ _ ⟨rfl,rfl⟩)
      go_roundg (N-(k+1))
      case measure=>omega
      case rel=>exact⟨k+1,true,by go_num,rfl,zac,zac,H2,rfl⟩
  ·have hltz:¬(k:Int)<(s.size:Int):=by omega
   have H2:Hid (k=G):=by have:=HI.out;rw[List.drop_eq_nil_of_le (by rw[<-HZ.out];omega)] at this;cases b<;>exact this
   go_wp2_with fail
   go_ret
   exact⟨bg (by rw[H2.out]),rfl⟩
end Go.Proofs.YtnjfolljbfkojaaGreatDoor
