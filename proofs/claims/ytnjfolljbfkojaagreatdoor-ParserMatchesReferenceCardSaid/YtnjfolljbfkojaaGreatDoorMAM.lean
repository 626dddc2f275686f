import Derived.Test.YtnjfolljbfkojaaGreatDoorMAI
set_option maxRecDepth 100000
set_option maxHeartbeats 20000000
namespace Go.Proofs.YtnjfolljbfkojaaGreatDoor
open Go.Value renaming int→zI
open Go.IntKind renaming i64→zL
open Go.Lib renaming hid→zH
open Go.RowKit Lx Pa
theorem kR (tx:List UInt8)(ts:List Tok)(p:Option Addr)(b off cap n k En:Nat)(E O:Int)(w:World)(hS:SlT w p b off n ts)(hk:k<=n)(hF:E≠0\/(E=0/\isW tx (ts.drop k)=false)) :
  Calls Tryz.prog 40 #[.agg #[.slice p n cap,zI zL k,zI zL En,zI zL E,zI zL O],.string (bs tx)] w fun e w'=>e = .returned (.agg #[.slice p n cap,zI zL k,zI zL En,zI zL (if E=0 then 10 else E),zI zL (if E=0 then ag ts En (n-k) else O)])/\RowKit.Below w.heap.size w w':=by
 have KI:Hid (∀w,SlT w p b off n ts->Calls Tryz.prog 20 #[.agg #[.slice p n cap,zI zL k,zI zL En,zI zL E,zI zL O],.string (bs tx)] w fun e w'=>e = .returned (.bool false)/\RowKit.Below w.heap.size w w'):=fun w hS=>by
  rcases hF with h|⟨rfl,h⟩
  ·exact nN tx p cap n k En E O w h
  ·have:=bE tx ts p b off cap n k En O w hS
   rw[h] at this
   exact this
 have KO:=zH (fun w hS=>aj ts p b off cap n k En E O w hS hk)
 have KF:=zH (fun a0 w=>bA p n cap k En E O 10 a0 w)
 have HS:=zH hS
 clear hS hF
 obtain⟨E1,hE1⟩:∃x,x=(if E=0 then 10 else E):=⟨_,rfl⟩
 obtain⟨O1,hO1⟩:∃x,x=(if E=0 then ag ts En (n-k) else O):=⟨_,rfl⟩
 have KF2:Hid (∀w,Calls Tryz.prog 27 #[.agg #[.slice p n cap,zI zL k,zI zL En,zI zL E,zI zL O],zI zL 10,zI zL (ag ts En (n-k))] w fun e w'=>e = .returned (.agg #[.slice p n cap,zI zL k,zI zL En,zI zL E1,zI zL O1])/\RowKit.Below w.heap.size w w'):=fun w=>by rw[hE1,hO1];exact KF.out _ w
 rw[<-hE1,<-hO1]
 clear hE1 hO1 KF
 obtain⟨W2,hW2⟩:∃W2,W2=(w.alloc (.cells #[.slice p n cap,zI zL k,zI zL En,zI zL E,zI zL O] 62)).alloc (.cells #[.slice none 0 0,zI zL 0,zI zL 0,zI zL 0,zI zL 0] 62):=⟨_,rfl⟩
 have BA:=zH ((B5.new w (.slice p n cap) (zI zL k) (zI zL En) (zI zL E) (zI zL O) 62).bel ((Below.refl _ _).alloc (Nat.le_refl _) (.cells #[.slice none 0 0,zI zL 0,zI zL 0,zI zL 0,zI zL 0] 62)))
 have BR:=zH (B5.new (w.alloc (.cells #[.slice p n cap,zI zL k,zI zL En,zI zL E,zI zL O] 62)) (.slice none 0 0) (zI zL 0) (zI zL 0) (zI zL 0) (zI zL 0) 62)
 have HB:Hid (RowKit.Below w.heap.size w W2):=zat
 rw[<-hW2] at BA BR
 rw[show(w.alloc (.cells #[.slice p n cap,zI zL k,zI zL En,zI zL E,zI zL O] 62)).heap.size=w.heap.size+1 by simp] at BR
 go_enter Tryz.func40,Tryz.ntmps40
 go_wp2_with fail
 rw[<-hW2]
 clear hW2
 refine(KI.out _ (HS.out.bel HB.out)).mono ?_
 rintro _ v1 ⟨rfl,hb⟩
 have B1:=zH (HB.out.trans (hb.mono HB.out.size))
 have A1:=zH (BA.out.bel hb)
 have R1:=zH (BR.out.bel hb)
 have S1:=zH (HS.out.bel B1.out)
 clear hb BA BR HB
 obtain⟨c0,c1,c2,c3,c4,-,-,-,-,-⟩:=A1.out
 go_wp2_with fail
 go_region_with (first
  | (go_at_call 19;refine(KO.out _ (S1.out.bel (Below.refl _ _).drew)).mono ?_;rintro _ v2 ⟨rfl,hv2⟩;have B2:=zH ((Below.refl v1.heap.size v1).drew.trans hv2);obtain⟨d0,d1,d2,d3,d4,-,-,-,-,-⟩:=A1.out.bel B2.out)
  | (go_at_call 27;refine(KF2.out _).mono ?_;rintro _ v3 ⟨rfl,hv3⟩;have B3:=zH (B2.out.trans (hv3.mono B2.out.size));have B4:=zH (B1.out.trans (B3.out.mono B1.out.size));obtain⟨e0,e1,e2,e3,e4,g0,g1,g2,g3,g4⟩:=R1.out.bel B3.out))
 all_goals
  go_wp2_with fail
  exact bodyPost_ret (v:= .agg #[.slice p n cap,zI zL k,zI zL En,zI zL E1,zI zL O1]) (by simp[results,Tryz.results40,go_sem,e0,e1,e2,e3,e4]) rfl ⟨rfl,zak⟩
theorem yu (tx:List UInt8)(ts:List Tok)(p:Option Addr)(b off cap n k En:Nat)(O:Int)(w:World)(hS:SlT w p b off n ts)(hk:k<=n)(hW:isW tx (ts.drop k)=true) :
  Calls Tryz.prog 40 #[.agg #[.slice p n cap,zI zL k,zI zL En,zI zL 0,zI zL O],.string (bs tx)] w fun e w'=>e = .returned (.agg #[.slice p n cap,zI zL (k+1:Nat),zI zL En,zI zL 0,zI zL O])/\RowKit.Below w.heap.size w w':=by
 have KI:=zH (fun w hS=>bE tx ts p b off cap n k En O w hS)
 rw[hW] at KI
 have hmx:=hS.max
 have hl:=hS.ln
 have hk1:IntKind.i64.wrap ((k:Int)+1)=((k+1:Nat):Int):=zal
 have HS:=zH hS
 clear hS
 obtain⟨W2,hW2⟩:∃W2,W2=(w.alloc (.cells #[.slice p n cap,zI zL k,zI zL En,zI zL 0,zI zL O] 62)).alloc (.cells #[.slice none 0 0,zI zL 0,zI zL 0,zI zL 0,zI zL 0] 62):=⟨_,rfl⟩
 have BA:=zH ((B5.new w (.slice p n cap) (zI zL k) (zI zL En) (zI zL 0) (zI zL O) 62).bel ((Below.refl _ _).alloc (Nat.le_refl _) (.cells #[.slice none 0 0,zI zL 0,zI zL 0,zI zL 0,zI zL 0] 62)))
 have BR:=zH (B5.new (w.alloc (.cells #[.slice p n cap,zI zL k,zI zL En,zI zL 0,zI zL O] 62)) (.slice none 0 0) (zI zL 0) (zI zL 0) (zI zL 0) (zI zL 0) 62)
 have HB:Hid (RowKit.Below w.heap.size w W2):=zat
 rw[<-hW2] at BA BR
 rw[show(w.alloc (.cells #[.slice p n cap,zI zL k,zI zL En,zI zL 0,zI zL O] 62)).heap.size=w.heap.size+1 by simp] at BR
 go_enter Tryz.func40,Tryz.ntmps40
 go_wp2_with fail
 rw[<-hW2]
 clear hW2
 refine(KI.out _ (HS.out.bel HB.out)).mono ?_
 rintro _ v1 ⟨rfl,hb⟩
 have B1:=zH (HB.out.trans (hb.mono HB.out.size))
 have A1:=zH (BA.out.bel hb)
 have R1:=zH (BR.out.bel hb)
 have S1:=zH (HS.out.bel B1.out)
 clear hb BA BR HB
 obtain⟨c0,c1,c2,c3,c4,f0,f1,f2,f3,f4⟩:=A1.out
 obtain⟨e0,e1,e2,e3,e4,g0,g1,g2,g3,g4⟩:=R1.out
 go_wp2_with fail
 exact bodyPost_ret (v:= .agg #[.slice p n cap,zI zL (k+1:Nat),zI zL En,zI zL 0,zI zL O]) (by simp[results,Tryz.results40,go_sem,e0,e1,e2,e3,e4]) rfl ⟨rfl,(by repeat' (first|(with_reducible exact B1.out)|(with_reducible refine Below.setCell ?_ ?_ _)|(with_reducible refine Below.alloc ?_ ?_ _)|(with_reducible refine Below.drew ?_)|(with_reducible refine below_drewN ?_ _)|(with_reducible exact Below.refl _ _)|omega|(simp;done)|(simp;omega)))⟩
theorem lu (ts:List Tok)(p:Option Addr)(b off cap n k En:Nat)(E O:Int)(w:World)(hS:SlT w p b off n ts)(hk:k<=n)(hwf:Wf ts)(hF:E≠0\/(E=0/\isA (ts.drop k)=false)) :
  Calls Tryz.prog 41 #[.agg #[.slice p n cap,zI zL k,zI zL En,zI zL E,zI zL O]] w fun e w'=>e = .returned (.tuple #[.string ⟨#[]⟩,.agg #[.slice p n cap,zI zL k,zI zL En,zI zL (if E=0 then 10 else E),zI zL (if E=0 then ag ts En (n-k) else O)]])/\RowKit.Below w.heap.size w w':=by
 have KI:Hid (∀w,SlT w p b off n ts->Calls Tryz.prog 66 #[.agg #[.slice p n cap,zI zL k,zI zL En,zI zL E,zI zL O]] w fun e w'=>e = .returned (.bool false)/\RowKit.Below w.heap.size w w'):=fun w hS=>by
  rcases hF with h|⟨rfl,h⟩
  ·exact ng p cap n k En E O w h
  ·have:=bZ ts p b off cap n k En O w hS hwf
   rw[h] at this
   exact this
 have KO:=zH (fun w hS=>aj ts p b off cap n k En E O w hS hk)
 have KF:=zH (fun a0 w=>bA p n cap k En E O 10 a0 w)
 have HS:=zH hS
 clear hS hF
 obtain⟨E1,hE1⟩:∃x,x=(if E=0 then 10 else E):=⟨_,rfl⟩
 obtain⟨O1,hO1⟩:∃x,x=(if E=0 then ag ts En (n-k) else O):=⟨_,rfl⟩
 have KF2:Hid (∀w,Calls Tryz.prog 27 #[.agg #[.slice p n cap,zI zL k,zI zL En,zI zL E,zI zL O],zI zL 10,zI zL (ag ts En (n-k))] w fun e w'=>e = .returned (.agg #[.slice p n cap,zI zL k,zI zL En,zI zL E1,zI zL O1])/\RowKit.Below w.heap.size w w'):=fun w=>by rw[hE1,hO1];exact KF.out _ w
 rw[<-hE1,<-hO1]
 clear hE1 hO1 KF
 obtain⟨W2,hW2⟩:∃W2,W2=(w.alloc (.cells #[.slice p n cap,zI zL k,zI zL En,zI zL E,zI zL O] 62)).alloc (.cells #[.slice none 0 0,zI zL 0,zI zL 0,zI zL 0,zI zL 0] 62):=⟨_,rfl⟩
 have BA:=zH ((B5.new w (.slice p n cap) (zI zL k) (zI zL En) (zI zL E) (zI zL O) 62).bel ((Below.refl _ _).alloc (Nat.le_refl _) (.cells #[.slice none 0 0,zI zL 0,zI zL 0,zI zL 0,zI zL 0] 62)))
 have BR:=zH (B5.new (w.alloc (.cells #[.slice p n cap,zI zL k,zI zL En,zI zL E,zI zL O] 62)) (.slice none 0 0) (zI zL 0) (zI zL 0) (zI zL 0) (zI zL 0) 62)
 have HB:Hid (RowKit.Below w.heap.size w W2):=zat
 rw[<-hW2] at BA BR
 rw[show(w.alloc (.cells #[.slice p n cap,zI zL k,zI zL En,zI zL E,zI zL O] 62)).heap.size=w.heap.size+1 by simp] at BR
 go_enter Tryz.func41,Tryz.ntmps41
 go_wp2_with fail
 rw[<-hW2]
 clear hW2
 refine(KI.out _ (HS.out.bel HB.out)).mono ?_
 rintro _ v1 ⟨rfl,hb⟩
 have B1:=zH (HB.out.trans (hb.mono HB.out.size))
 have A1:=zH (BA.out.bel hb)
 have R1:=zH (BR.out.bel hb)
 have S1:=zH (HS.out.bel B1.out)
 clear hb BA BR HB
 obtain⟨c0,c1,c2,c3,c4,-,-,-,-,-⟩:=A1.out
 go_wp2_with fail
 go_region_with (first
  | (go_at_call 19;refine(KO.out _ (S1.out.bel (Below.refl _ _).drew)).mono ?_;rintro _ v2 ⟨rfl,hv2⟩;have B2:=zH ((Below.refl v1.heap.size v1).drew.trans hv2);obtain⟨d0,d1,d2,d3,d4,-,-,-,-,-⟩:=A1.out.bel B2.out)
  | (go_at_call 27;refine(KF2.out _).mono ?_;rintro _ v3 ⟨rfl,hv3⟩;have B3:=zH (B2.out.trans (hv3.mono B2.out.size));have B4:=zH (B1.out.trans (B3.out.mono B1.out.size));obtain⟨e0,e1,e2,e3,e4,g0,g1,g2,g3,g4⟩:=R1.out.bel B3.out))
 all_goals
  go_wp2_with fail
  exact bodyPost_ret (v:= .tuple #[.string ⟨#[]⟩,.agg #[.slice p n cap,zI zL k,zI zL En,zI zL E1,zI zL O1]]) (by simp[results,Tryz.results41,go_sem,e0,e1,e2,e3,e4]) rfl ⟨rfl,zak⟩
theorem kE (ts:List Tok)(p:Option Addr)(b off cap n k En:Nat)(E O:Int)(w:World)(hS:SlT w p b off n ts)(hk:k<=n)(hF:E≠0\/(E=0/\isN (ts.drop k)=false)) :
  Calls Tryz.prog 45 #[.agg #[.slice p n cap,zI zL k,zI zL En,zI zL E,zI zL O]] w fun e w'=>e = .returned (.tuple #[zI zL 0,.agg #[.slice p n cap,zI zL k,zI zL En,zI zL (if E=0 then 10 else E),zI zL (if E=0 then ag ts En (n-k) else O)]])/\RowKit.Below w.heap.size w w':=by
 have KI:Hid (∀w,SlT w p b off n ts->Calls Tryz.prog 67 #[.agg #[.slice p n cap,zI zL k,zI zL En,zI zL E,zI zL O]] w fun e w'=>e = .returned (.bool false)/\RowKit.Below w.heap.size w w'):=fun w hS=>by
  rcases hF with h|⟨rfl,h⟩
  ·exact tO p cap n k En E O w h
  ·have:=bR ts p b off cap n k En O w hS
   rw[h] at this
   exact this
 have KO:=zH (fun w hS=>aj ts p b off cap n k En E O w hS hk)
 have KF:=zH (fun a0 w=>bA p n cap k En E O 10 a0 w)
 have HS:=zH hS
 clear hS hF
 obtain⟨E1,hE1⟩:∃x,x=(if E=0 then 10 else E):=⟨_,rfl⟩
 obtain⟨O1,hO1⟩:∃x,x=(if E=0 then ag ts En (n-k) else O):=⟨_,rfl⟩
 have KF2:Hid (∀w,Calls Tryz.prog 27 #[.agg #[.slice p n cap,zI zL k,zI zL En,zI zL E,zI zL O],zI zL 10,zI zL (ag ts En (n-k))] w fun e w'=>e = .returned (.agg #[.slice p n cap,zI zL k,zI zL En,zI zL E1,zI zL O1])/\RowKit.Below w.heap.size w w'):=fun w=>by rw[hE1,hO1];exact KF.out _ w
 rw[<-hE1,<-hO1]
 clear hE1 hO1 KF
 obtain⟨W2,hW2⟩:∃W2,W2=(w.alloc (.cells #[.slice p n cap,zI zL k,zI zL En,zI zL E,zI zL O] 62)).alloc (.cells #[.slice none 0 0,zI zL 0,zI zL 0,zI zL 0,zI zL 0] 62):=⟨_,rfl⟩
 have BA:=zH ((B5.new w (.slice p n cap) (zI zL k) (zI zL En) (zI zL E) (zI zL O) 62).bel ((Below.refl _ _).alloc (Nat.le_refl _) (.cells #[.slice none 0 0,zI zL 0,zI zL 0,zI zL 0,zI zL 0] 62)))
 have BR:=zH (B5.new (w.alloc (.cells #[.slice p n cap,zI zL k,zI zL En,zI zL E,zI zL O] 62)) (.slice none 0 0) (zI zL 0) (zI zL 0) (zI zL 0) (zI zL 0) 62)
 have HB:Hid (RowKit.Below w.heap.size w W2):=zat
 rw[<-hW2] at BA BR
 rw[show(w.alloc (.cells #[.slice p n cap,zI zL k,zI zL En,zI zL E,zI zL O] 62)).heap.size=w.heap.size+1 by simp] at BR
 go_enter Tryz.func45,Tryz.ntmps45
 go_wp2_with fail
 rw[<-hW2]
 clear hW2
 refine(KI.out _ (HS.out.bel HB.out)).mono ?_
 rintro _ v1 ⟨rfl,hb⟩
 have B1:=zH (HB.out.trans (hb.mono HB.out.size))
 have A1:=zH (BA.out.bel hb)
 have R1:=zH (BR.out.bel hb)
 have S1:=zH (HS.out.bel B1.out)
 clear hb BA BR HB
 obtain⟨c0,c1,c2,c3,c4,-,-,-,-,-⟩:=A1.out
 go_wp2_with fail
 go_region_with (first
  | (go_at_call 19;refine(KO.out _ (S1.out.bel (Below.refl _ _).drew)).mono ?_;rintro _ v2 ⟨rfl,hv2⟩;have B2:=zH ((Below.refl v1.heap.size v1).drew.trans hv2);obtain⟨d0,d1,d2,d3,d4,-,-,-,-,-⟩:=A1.out.bel B2.out)
  | (go_at_call 27;refine(KF2.out _).mono ?_;rintro _ v3 ⟨rfl,hv3⟩;have B3:=zH (B2.out.trans (hv3.mono B2.out.size));have B4:=zH (B1.out.trans (B3.out.mono B1.out.size));obtain⟨e0,e1,e2,e3,e4,g0,g1,g2,g3,g4⟩:=R1.out.bel B3.out))
 all_goals
  go_wp2_with fail
  exact bodyPost_ret (v:= .tuple #[zI zL 0,.agg #[.slice p n cap,zI zL k,zI zL En,zI zL E1,zI zL O1]]) (by simp[results,Tryz.results45,go_sem,e0,e1,e2,e3,e4]) rfl ⟨rfl,zak⟩
end Go.Proofs.YtnjfolljbfkojaaGreatDoor
