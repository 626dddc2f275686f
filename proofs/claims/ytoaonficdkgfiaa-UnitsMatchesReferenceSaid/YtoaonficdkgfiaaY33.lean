/- Texts on units: ROf LMat LOpv -/
import Derived.Test.YtoaonficdkgfiaaY31
import Derived.Test.YtoaonficdkgfiaaY24
import Derived.Test.YtoaonficdkgfiaaY25
import Derived.Test.YtoaonficdkgfiaaY32
import Derived.Test.YtoaonficdkgfiaaY26
import Derived.Test.YtoaonficdkgfiaaY23
import Derived.Test.YtoaonficdkgfiaaY15
namespace Go.Proofs.Ytoaonficdkgfiaa
open Go.RowKit Un MapKept

set_option maxRecDepth 100000 in
set_option maxHeartbeats 8000000 in
theorem rOf_any (L : List Dc) (t : Nd) (hn : nin t) (p : Option Addr) (b off c : Nat) (A : Nat → Prop) (x : Kd) (w : World) (hS : SlR w p b off L.length 8 (L.map dC)) (hx : NdM w A t x) :
  Calls Try.prog 14 #[.slice p L.length c, nV t x] w fun e w' => e = .returned (OfV (ofV vld L t)) ∧ RowKit.Below w.heap.size w w' := by
 have KV := Lib.hid (fun V (hV : RowKit.Below w.heap.size w V) => rValid_any L t hn p b off c A x V (hS.bel hV) (hx.bel hV))
 have KF : Hid ((rightD L && form vld t) = true → ∀ V, RowKit.Below w.heap.size w V → Calls Try.prog 39 #[.slice p L.length c, nV t x] V fun e w' => e = .returned (.agg (g6 (ofV vld L t)).toArray) ∧ RowKit.Below V.heap.size V w') := fun h V hV => by
  have h2 := h
  simp only [Bool.and_eq_true, rightD, form] at h2
  have := rFind_any L h2.1.1 (size t) t (Nat.le_refl _) 20 h2.2.1 p b off c A x V (hS.bel hV) (hx.bel hV)
  have e : ofV vld L t = fnd (Un.facts L) t := by unfold ofV; rw [if_pos h]
  rw [e]
  exact this
 have HN : Hid ((rightD L && form vld t) = false → ofV vld L t = .er 1 0) := fun h => by show _ = _; unfold ofV; rw [if_neg (by rw [h]; simp)]
 have hmx := hS.max
 obtain ⟨l, hl⟩ : ∃ l, l = nC t x := ⟨_, rfl⟩
 have hv : nV t x = .agg l.toArray := by rw [hl]; rfl
 have hl1 : l.length = 10 := by rw [hl]; exact nC_len t x
 rw [hv] at KV KF ⊢
 rw [OfV_eq]
 clear hv hl hS hx hn
 generalize ofV vld L t = g at *
 generalize (rightD L && form vld t) = rv at *
 generalize L.length = m at *
 obtain ⟨W1, hW1⟩ : ∃ W1, w.alloc (.cells l.toArray 32) = W1 := ⟨_, rfl⟩
 have a1 := (Below.refl w.heap.size w).alloc (Nat.le_refl _) (.cells l.toArray 32)
 have x1 : BoxL W1 w.heap.size l := by rw [← hW1]; exact box_new _ _ rfl
 rw [hW1] at a1
 have z1 : W1.heap.size = w.heap.size + 1 := by rw [← hW1]; simp
 obtain ⟨W2, hW2⟩ : ∃ W2, W1.alloc (.cells #[.bool false, .int .i64 0, .int .i64 0, .int .i64 0] 29) = W2 := ⟨_, rfl⟩
 have a2 := (Below.refl W1.heap.size W1).alloc (Nat.le_refl _) (.cells zUnitL.toArray 29)
 have x2 : BoxL W2 (w.heap.size + 1) zUnitL := by rw [← hW2]; exact box_new _ _ z1
 replace a2 : RowKit.Below W1.heap.size W1 W2 := hW2 ▸ a2
 have hp1 : 0 < l.length := by omega
 have X3 := Lib.hid (x1.bel hp1 a2)
 have X4 := Lib.hid x2
 have BB := Lib.hid (a1.trans (a2.mono (by omega)))
 clear x1 x2 a1 a2
 go_enter Try.func14, Try.ntmps14
 go_wp2_with ((with_reducible show wpList _ _ _ ({ dst := some 10, op := _, type := _, pos := _, after := _, guard := _ } :: _) _ _); clear hW1 hW2 z1; refine wl_loadP rfl rfl rfl (load_row 32 10 (by kernel_rfl) (by kernel_rfl) _ _ l hl1 (fun j v hv => (X3.out j v hv).1)) ?_; simp only [Act.put, zA, zB, zC])
 refine (KV.out _ BB.out).mono ?_
 rintro _ V3 ⟨rfl, hb⟩
 replace BB := Lib.hid (BB.out.trans (hb.mono BB.out.size))
 replace X3 := Lib.hid (X3.out.bel hp1 hb)
 replace X4 := Lib.hid (X4.out.bel (by simp [zUnitL]) hb)
 clear hb KV
 cases rv with
 | false =>
  have hg := HN.out rfl
  subst hg
  go_wp2_with ((with_reducible show wpList _ _ _ ({ dst := none, op := Op.store _ (Operand.tmp 4) _, type := _, pos := _, after := _, guard := _ } :: _) _ _); refine wl_store rfl rfl rfl rfl (store_row 29 4 (by kernel_rfl) V3 (w.heap.size + 1) zUnitL (uC uNum) X4.out rfl rfl (by simp [uC, Value.oneCell'])) ?_; simp only [Act.put]; replace X4 := Lib.hid (X4.out.cells (L := uC uNum) rfl); have hk := kept_setCells (b := w.heap.size + 1) (w := V3) (uC uNum) 0 V3 (Kept.refl _ _); replace BB := Lib.hid (below_kept BB.out hk (by omega)); clear hk; generalize V3.setCells (w.heap.size + 1) 0 (uC uNum) = F9 at *; obtain ⟨r0, r1, r2, r3, -⟩ := box4 X4.out)
  exact bodyPost_ret (v := .tuple #[.agg (uC uNum).toArray, .int .i64 1, .int .i64 0]) (by simp [uC, results, Try.results14, go_sem, r0, r1, r2, r3]) rfl ⟨rfl, BB.out⟩
 | true =>
  replace KF := Lib.hid (KF.out rfl)
  clear HN
  go_wp2_with ((with_reducible show wpList _ _ _ ({ dst := some 16, op := _, type := _, pos := _, after := _, guard := _ } :: _) _ _); refine wl_loadP rfl rfl rfl (load_row 32 10 (by kernel_rfl) (by kernel_rfl) _ _ l hl1 (fun j v hv => (X3.out j v hv).1)) ?_; simp only [Act.put, zA, zB, zC])
  refine (KF.out _ BB.out).mono ?_
  rintro _ V4 ⟨rfl, hb⟩
  replace BB := Lib.hid (BB.out.trans (hb.mono BB.out.size))
  replace X3 := Lib.hid (X3.out.bel hp1 hb)
  replace X4 := Lib.hid (X4.out.bel (by simp [zUnitL]) hb)
  clear hb KF
  have q4 := X4.out.lt (by simp [zUnitL])
  go_wp2_with ((with_reducible show wpList _ _ _ ({ dst := some 8, op := _, type := _, pos := _, after := _, guard := _ } :: _) _ _); obtain ⟨b8, hb8⟩ : ∃ b, b = V4.heap.size := ⟨_, rfl⟩; refine wl_gbox (L := g6 g) rfl rfl rfl rfl rfl (by simp [Value.oneCell']) rfl rfl ?_; intro V5 hb hs hx; replace BB := Lib.hid (BB.out.trans (hb.mono BB.out.size)); replace X3 := Lib.hid (X3.out.bel hp1 hb); replace X4 := Lib.hid (X4.out.bel (by simp [zUnitL]) hb); have X8 := Lib.hid hx; clear hb hx hs; simp only [Act.put, zA, zB, zC]; rw [← hb8] at X8 ⊢; have q8 : w.heap.size + 1 < b8 := (by rw [hb8]; omega); clear hb8)
  clear q4
  have hb := (Below.refl V5.heap.size V5).drew
  replace X8 := Lib.hid (X8.out.bel (by simp) hb)
  replace BB := Lib.hid (BB.out.trans (hb.mono BB.out.size))
  replace X3 := Lib.hid (X3.out.bel hp1 hb)
  replace X4 := Lib.hid (X4.out.bel (by simp [zUnitL]) hb)
  have hS : Hid (BoxL V5.drew b8 (g6 g)) := X8
  refine wp_region_held (S := fun w' : World => Hid (BoxL w' b8 (g6 g))) mixed ?_
  change wpAnyH _ _ _ _ _ _ _ _ V5.drew
  clear hb
  generalize V5.drew = U1 at *
  refine tk0 (v := ?_) (by kernel_rfl) (by kernel_rfl) (by kernel_rfl) (fun _ _ _ h => h) (Or.inl ⟨by first | rfl | (simp [Region.wanted, yielded]; done), ?_⟩) hS ?_
  rotate_left
  ·intro w' hSw; have s4 := (hSw.out 4 _ rfl).1; have s5 := (hSw.out 5 _ rfl).1; clear hSw; go_simp; try with_reducible rfl
  simp only [Act.put, zA, zB, zC]
  refine tk1 (v := (.agg (uC (gU g)).toArray)) (by kernel_rfl) (by kernel_rfl) (by kernel_rfl) (fun _ _ _ h => h) (Or.inl ⟨by first | rfl | (simp [Region.wanted, yielded]; done), ?_⟩) hS ?_
  ·intro w' hSw
   exact ex_load rfl rfl (load_row 29 4 (by kernel_rfl) (by kernel_rfl) _ _ (uC (gU g)) rfl (fun j v hv => (hSw.out j v (g6_u g j v hv)).1))
  simp only [Act.put, zA, zB, zC]
  refine tk2 (v := ?_) (by kernel_rfl) (by kernel_rfl) (by kernel_rfl) (fun _ _ _ h => h) (Or.inl ⟨by first | rfl | (simp [Region.wanted, yielded]; done), ?_⟩) hS ?_
  rotate_left
  ·intro w' hSw; have s4 := (hSw.out 4 _ rfl).1; have s5 := (hSw.out 5 _ rfl).1; clear hSw; go_simp; try with_reducible rfl
  simp only [Act.put, zA, zB, zC]
  refine tk3 (v := ?_) (by kernel_rfl) (by kernel_rfl) (by kernel_rfl) (fun _ _ _ h => h) (Or.inl ⟨by first | rfl | (simp [Region.wanted, yielded]; done), ?_⟩) hS ?_
  rotate_left
  ·intro w' hSw; have s4 := (hSw.out 4 _ rfl).1; have s5 := (hSw.out 5 _ rfl).1; clear hSw; go_simp; try with_reducible rfl
  simp only [Act.put, zA, zB, zC]
  refine tk4 (v := ?_) (by kernel_rfl) (by kernel_rfl) (by kernel_rfl) (fun _ _ _ h => h) (Or.inl ⟨by first | rfl | (simp [Region.wanted, yielded]; done), ?_⟩) hS ?_
  rotate_left
  ·intro w' hSw; have s4 := (hSw.out 4 _ rfl).1; have s5 := (hSw.out 5 _ rfl).1; clear hSw; go_simp; try with_reducible rfl
  simp only [Act.put, zA, zB, zC]
  refine tk5 (v := ?_) (by kernel_rfl) (by kernel_rfl) (by kernel_rfl) (fun _ _ _ h => h) (Or.inl ⟨by first | rfl | (simp [Region.wanted, yielded]; done), ?_⟩) hS ?_
  rotate_left
  ·intro w' hSw; have s4 := (hSw.out 4 _ rfl).1; have s5 := (hSw.out 5 _ rfl).1; clear hSw; go_simp; try with_reducible rfl
  simp only [Act.put, zA, zB, zC]
  refine wpAnyH_ready (rs := [6]) (by kernel_rfl) (by simp) (st6 (fun K hK => ?_) AllReadyH.nil)
  refine (if_pos (by kernel_rfl)).mpr ?_
  refine wp_store rfl rfl rfl (store_row 29 4 (by kernel_rfl) U1 (w.heap.size + 1) zUnitL (uC (gU g)) X4.out rfl rfl (by simp [uC, Value.oneCell'])) ?_
  replace X4 := Lib.hid (X4.out.cells (L := uC (gU g)) rfl)
  have hk := kept_setCells (b := w.heap.size + 1) (w := U1) (uC (gU g)) 0 U1 (Kept.refl _ _)
  replace BB := Lib.hid (below_kept BB.out hk (by omega))
  replace X8 := Lib.hid (X8.out.call (by simp) hk (by omega))
  clear hk
  generalize U1.setCells (w.heap.size + 1) 0 (uC (gU g)) = F9 at *
  have hS : Hid (BoxL F9 b8 (g6 g)) := X8
  refine hK.out _ _ ?_ (fun hHeld => ?_)
  ·exact hS
  clear hK K
  try simp only [Act.put]
  refine tk7 (v := ?_) (by kernel_rfl) (by kernel_rfl) (by kernel_rfl) (fun _ _ _ h => h) (Or.inl ⟨by first | rfl | (simp [Region.wanted, yielded]; done), ?_⟩) hS ?_
  rotate_left
  ·intro w' hSw; have s4 := (hSw.out 4 _ rfl).1; have s5 := (hSw.out 5 _ rfl).1; clear hSw; go_simp; try with_reducible rfl
  simp only [Act.put, zA, zB, zC]
  refine tk8 (v := ?_) (by kernel_rfl) (by kernel_rfl) (by kernel_rfl) (fun _ _ _ h => h) (Or.inl ⟨by first | rfl | (simp [Region.wanted, yielded]; done), ?_⟩) hS ?_
  rotate_left
  ·intro w' hSw; have s4 := (hSw.out 4 _ rfl).1; have s5 := (hSw.out 5 _ rfl).1; clear hSw; go_simp; try with_reducible rfl
  simp only [Act.put, zA, zB, zC]
  refine wpAnyH_done (by kernel_rfl) ?_ _
  clear hS
  obtain ⟨r0, r1, r2, r3, -⟩ := box4 X4.out
  go_wp2_with fail
  exact bodyPost_ret (v := .tuple #[.agg (uC (gU g)).toArray, .int .i64 (gE g), .int .i64 (gP g)]) (by simp [uC, results, Try.results14, go_sem, r0, r1, r2, r3]) rfl ⟨rfl, BB.out⟩
end Go.Proofs.Ytoaonficdkgfiaa
namespace Go.Proofs.Ytoaonficdkgfiaa
open Go.RowKit Un MapKept

set_option maxRecDepth 100000 in
set_option maxHeartbeats 12000000 in
theorem match_law (L : List Dc) (rs : List Ru) (hv : ∀ r ∈ rs, in64 r.ver) (rows : List (List Value)) (pd pr : Option Addr) (bd od cd br orr cr : Nat) (A B : Nat → Prop) (t : Nd) (hn : nin t) (x : Kd) (w : World) (hD : SlR w pd bd od L.length 8 (L.map dC)) (hR : RsM w A pr br orr rs rows) (hx : NdM w B t x) :
  Calls Try.prog 3 #[.agg #[.slice pd L.length cd, .slice pr rs.length cr], nV t x] w fun e w' => e = .returned (.bool true) ∧ RowKit.Below w.heap.size w w' := by
 have KF := Lib.hid (fun V (hV : RowKit.Below w.heap.size w V) => rFew_any L rs rows pd pr bd od cd br orr cr A V (hD.bel hV) (hR.bel hV))
 have KN := Lib.hid (fun V (hV : RowKit.Below w.heap.size w V) => lFewNode_any t B x V (hx.bel hV))
 have KU := Lib.hid (fun V (hV : RowKit.Below w.heap.size w V) => uOf_any L t hn pd bd od cd B x V (hD.bel hV) (hx.bel hV))
 have KR := Lib.hid (fun V (hV : RowKit.Below w.heap.size w V) => rOf_any L t hn pd bd od cd B x V (hD.bel hV) (hx.bel hV))
 have KV := Lib.hid (fun V (hV : RowKit.Below w.heap.size w V) => uValid_any L t hn pd bd od cd B x V (hD.bel hV) (hx.bel hV))
 have KW := Lib.hid (fun V (hV : RowKit.Below w.heap.size w V) => rValid_any L t hn pd bd od cd B x V (hD.bel hV) (hx.bel hV))
 have KC := Lib.hid (fun V (hV : RowKit.Below w.heap.size w V) => uCheck_any L rs rows pd pr bd od cd br orr cr A V (hD.bel hV) (hR.bel hV))
 have KD := Lib.hid (fun V (hV : RowKit.Below w.heap.size w V) => rcheck_any L rs hv rows pd pr bd od cd br orr cr A V (hD.bel hV) (hR.bel hV))
 have KS : Hid (∀ V v u, DgM V v (checkV vld L rs) → DgM V u (checkV vld L rs) → Calls Try.prog 17 #[v, u] V fun e w' => e = .returned (.bool true) ∧ RowKit.Below V.heap.size V w') := fun V v u h1 h2 =>
  (rSame_any _ _ v u V h1 h2).mono fun e w' ⟨a, b⟩ => ⟨by rw [a, decide_eq_true rfl], b⟩
 obtain ⟨l, hl⟩ : ∃ l, l = nC t x := ⟨_, rfl⟩
 have hvl : nV t x = .agg l.toArray := by rw [hl]; rfl
 have hl1 : l.length = 10 := by rw [hl]; exact nC_len t x
 rw [hvl] at KN KU KR KV KW ⊢
 rw [OfV_eq] at KU KR
 have hmd := hD.max
 have hmr := hR.sl.max
 clear hl hvl hD hR hx hn hv
 generalize gU (ofV vld L t) = u at *
 generalize gE (ofV vld L t) = E at *
 generalize gP (ofV vld L t) = P at *
 generalize (rightD L && form vld t) = rv at *
 generalize checkV vld L rs = dg at *
 generalize fewC L rs = few at *
 generalize decide (0 ≤ left 30 400 t) = few2 at *
 generalize L.length = m at *
 generalize rs.length = n at *
 obtain ⟨W1, hW1⟩ : ∃ W1, w.alloc (.cells #[.slice pd m cd, .slice pr n cr] 25) = W1 := ⟨_, rfl⟩
 have a1 := (Below.refl w.heap.size w).alloc (Nat.le_refl _) (.cells #[.slice pd m cd, .slice pr n cr] 25)
 have x1 : BoxL W1 w.heap.size [.slice pd m cd, .slice pr n cr] := by rw [← hW1]; exact box_new [.slice pd m cd, .slice pr n cr] _ rfl
 rw [hW1] at a1
 have z1 : W1.heap.size = w.heap.size + 1 := by rw [← hW1]; simp
 obtain ⟨W2, hW2⟩ : ∃ W2, W1.alloc (.cells l.toArray 32) = W2 := ⟨_, rfl⟩
 have a2 := (Below.refl W1.heap.size W1).alloc (Nat.le_refl _) (.cells l.toArray 32)
 have x2 : BoxL W2 (w.heap.size + 1) l := by rw [← hW2]; exact box_new l _ z1
 rw [hW2] at a2
 have hp1 : 0 < l.length := by omega
 have X2 := Lib.hid (x1.bel (by simp) a2)
 have X3 := Lib.hid x2
 have BB := Lib.hid (a1.trans (a2.mono (by omega)))
 clear x1 x2 a1 a2
 go_enter Try.func3, Try.ntmps3
 go_wp2_with fail
 clear hW1 hW2 z1
 refine (lhead_any _).mono ?_
 rintro _ V1 ⟨rfl, hb⟩
 replace BB := Lib.hid (BB.out.trans (hb.mono BB.out.size))
 replace X2 := Lib.hid (X2.out.bel (by simp) hb)
 replace X3 := Lib.hid (X3.out.bel hp1 hb)
 clear hb
 go_wp2_with ((with_reducible show wpList _ _ _ ({ dst := some 13, op := _, type := _, pos := _, after := _, guard := _ } :: _) _ _); refine wl_loadP rfl rfl rfl (load_row 25 2 (by kernel_rfl) (by kernel_rfl) _ _ [.slice pd m cd, .slice pr n cr] rfl (fun j v hv => (X2.out j v hv).1)) ?_; simp only [Act.put, zA, zB, zC])
 refine (KF.out _ BB.out).mono ?_
 rintro _ V2 ⟨rfl, hb⟩
 replace BB := Lib.hid (BB.out.trans (hb.mono BB.out.size))
 replace X2 := Lib.hid (X2.out.bel (by simp) hb)
 replace X3 := Lib.hid (X3.out.bel hp1 hb)
 clear hb KF
 cases few with
 | false =>
  go_wp2_with fail
  go_ret
  exact ⟨rfl, BB.out⟩
 | true =>
  go_wp2_with ((with_reducible show wpList _ _ _ ({ dst := some 17, op := _, type := _, pos := _, after := _, guard := _ } :: _) _ _); refine wl_loadG (by first | rfl | (rw [hd]; rfl) | (simp [Region.wanted, yielded, hd]; done)) rfl rfl (load_row 32 10 (by kernel_rfl) (by kernel_rfl) _ _ l hl1 (fun j v hv => (X3.out j v hv).1)) ?_; simp only [Act.put, zA, zB, zC])
  refine (KN.out _ BB.out).mono ?_
  rintro _ V3 ⟨rfl, hb⟩
  replace BB := Lib.hid (BB.out.trans (hb.mono BB.out.size))
  replace X2 := Lib.hid (X2.out.bel (by simp) hb)
  replace X3 := Lib.hid (X3.out.bel hp1 hb)
  clear hb KN
  cases few2 with
  | false =>
   go_wp2_with fail
   go_ret
   exact ⟨rfl, BB.out⟩
  | true =>
   obtain ⟨k0, -⟩ := X2.out 0 _ rfl
   go_wp2_with ((with_reducible show wpList _ _ _ ({ dst := some 25, op := _, type := _, pos := _, after := _, guard := _ } :: _) _ _); refine wl_loadP rfl rfl rfl (load_row 32 10 (by kernel_rfl) (by kernel_rfl) _ _ l hl1 (fun j v hv => (X3.out j v hv).1)) ?_; simp only [Act.put, zA, zB, zC])
   refine (KU.out _ BB.out).mono ?_
   rintro _ V4 ⟨rfl, hb⟩
   clear k0
   replace BB := Lib.hid (BB.out.trans (hb.mono BB.out.size))
   replace X2 := Lib.hid (X2.out.bel (by simp) hb)
   replace X3 := Lib.hid (X3.out.bel hp1 hb)
   clear hb KU
   obtain ⟨k0, -⟩ := X2.out 0 _ rfl
   obtain ⟨b6, hb6⟩ : ∃ b, b = V4.heap.size := ⟨_, rfl⟩
   go_wp2_with (first | ((with_reducible show wpList _ _ _ ({ dst := some 6, op := _, type := _, pos := _, after := _, guard := _ } :: _) _ _); refine wl_ubox (L := uC u) rfl rfl rfl rfl rfl (by simp [uC, Value.oneCell']) rfl rfl ?_; intro V5 hb hs hx; replace BB := Lib.hid (BB.out.trans (hb.mono BB.out.size)); replace X2 := Lib.hid (X2.out.bel (by simp) hb); replace X3 := Lib.hid (X3.out.bel hp1 hb); have X6 := Lib.hid hx; clear hb hx hs k0; obtain ⟨k0, -⟩ := X2.out 0 _ rfl; simp only [Act.put, zA, zB, zC]; rw [← hb6] at X6 ⊢; clear hb6) | ((with_reducible show wpList _ _ _ ({ dst := some 33, op := _, type := _, pos := _, after := _, guard := _ } :: _) _ _); refine wl_loadP rfl rfl rfl (load_row 32 10 (by kernel_rfl) (by kernel_rfl) _ _ l hl1 (fun j v hv => (X3.out j v hv).1)) ?_; simp only [Act.put, zA, zB, zC]))
   refine (KR.out _ BB.out).mono ?_
   rintro _ V6 ⟨rfl, hb⟩
   clear k0
   replace BB := Lib.hid (BB.out.trans (hb.mono BB.out.size))
   replace X2 := Lib.hid (X2.out.bel (by simp) hb)
   replace X3 := Lib.hid (X3.out.bel hp1 hb)
   replace X6 := Lib.hid (X6.out.bel (by simp [uC]) hb)
   clear hb KR
   obtain ⟨b9, hb9⟩ : ∃ b, b = V6.heap.size := ⟨_, rfl⟩
   go_wp2_with ((with_reducible show wpList _ _ _ ({ dst := some 9, op := _, type := _, pos := _, after := _, guard := _ } :: _) _ _); refine wl_ubox (L := uC u) rfl rfl rfl rfl rfl (by simp [uC, Value.oneCell']) rfl rfl ?_; intro V7 hb hs hx; replace BB := Lib.hid (BB.out.trans (hb.mono BB.out.size)); replace X2 := Lib.hid (X2.out.bel (by simp) hb); replace X3 := Lib.hid (X3.out.bel hp1 hb); replace X6 := Lib.hid (X6.out.bel (by simp [uC]) hb); have X9 := Lib.hid hx; clear hb hx hs; simp only [Act.put, zA, zB, zC]; rw [← hb9] at X9 ⊢; clear hb9)
   have hb := (Below.refl V7.heap.size V7).drew
   replace BB := Lib.hid (BB.out.trans (hb.mono BB.out.size))
   replace X2 := Lib.hid (X2.out.bel (by simp) hb)
   replace X3 := Lib.hid (X3.out.bel hp1 hb)
   replace X6 := Lib.hid (X6.out.bel (by simp [uC]) hb)
   replace X9 := Lib.hid (X9.out.bel (by simp [uC]) hb)
   clear hb
   have hS : Hid (BoxL V7.drew w.heap.size [.slice pd m cd, .slice pr n cr]) ∧ Hid (BoxL V7.drew (w.heap.size + 1) l) ∧ Hid (BoxL V7.drew b6 (uC u)) ∧ Hid (BoxL V7.drew b9 (uC u)) := ⟨X2, X3, X6, X9⟩
   refine wp_region_held (S := fun w' : World => Hid (BoxL w' w.heap.size [.slice pd m cd, .slice pr n cr]) ∧ Hid (BoxL w' (w.heap.size + 1) l) ∧ Hid (BoxL w' b6 (uC u)) ∧ Hid (BoxL w' b9 (uC u))) mixed ?_
   change wpAnyH _ _ _ _ _ _ _ _ V7.drew
   generalize V7.drew = U1 at *
   refine tk0 (v := ?_) (by kernel_rfl) (by kernel_rfl) (by kernel_rfl) (fun _ _ _ h => h) (Or.inl ⟨by first | rfl | (simp [Region.wanted, yielded]; done), ?_⟩) hS ?_
   rotate_left
   ·intro w' hSw; have c0 := (hSw.1.out 0 _ rfl).1; clear hSw; go_simp; try with_reducible rfl
   simp only [Act.put, zA, zB, zC]
   refine tk1 (v := ?_) (by kernel_rfl) (by kernel_rfl) (by kernel_rfl) (fun _ _ _ h => h) (Or.inl ⟨by first | rfl | (simp [Region.wanted, yielded]; done), ?_⟩) hS ?_
   rotate_left
   ·intro w' hSw; have c0 := (hSw.1.out 0 _ rfl).1; clear hSw; go_simp; try with_reducible rfl
   simp only [Act.put, zA, zB, zC]
   refine tk2 (v := ?_) (by kernel_rfl) (by kernel_rfl) (by kernel_rfl) (fun _ _ _ h => h) (Or.inl ⟨by first | rfl | (simp [Region.wanted, yielded]; done), ?_⟩) hS ?_
   rotate_left
   ·intro w' hSw; have c0 := (hSw.1.out 0 _ rfl).1; clear hSw; go_simp; try with_reducible rfl
   simp only [Act.put, zA, zB, zC]
   refine tk3 (v := ?_) (by kernel_rfl) (by kernel_rfl) (by kernel_rfl) (fun _ _ _ h => h) (Or.inl ⟨by first | rfl | (simp [Region.wanted, yielded]; done), ?_⟩) hS ?_
   rotate_left
   ·intro w' hSw; have c0 := (hSw.1.out 0 _ rfl).1; clear hSw; go_simp; try with_reducible rfl
   simp only [Act.put, zA, zB, zC]
   refine tk4 (v := .agg l.toArray) (by kernel_rfl) (by kernel_rfl) (by kernel_rfl) (fun _ _ _ h => h) (Or.inl ⟨by first | rfl | (simp [Region.wanted, yielded]; done), ?_⟩) hS ?_
   ·intro w' hSw
    exact ex_load rfl rfl (load_row 32 10 (by kernel_rfl) (by kernel_rfl) _ _ l hl1 (fun j v hv => (hSw.2.1.out j v hv).1))
   simp only [Act.put, zA, zB, zC]
   refine tk6 (v := ?_) (by kernel_rfl) (by kernel_rfl) (by kernel_rfl) (fun _ _ _ h => h) (Or.inl ⟨by first | rfl | (simp [Region.wanted, yielded]; done), ?_⟩) hS ?_
   rotate_left
   ·intro w' hSw; have c0 := (hSw.1.out 0 _ rfl).1; clear hSw; go_simp; try with_reducible rfl
   simp only [Act.put, zA, zB, zC]
   refine tk7 (v := ?_) (by kernel_rfl) (by kernel_rfl) (by kernel_rfl) (fun _ _ _ h => h) (Or.inl ⟨by first | rfl | (simp [Region.wanted, yielded]; done), ?_⟩) hS ?_
   rotate_left
   ·intro w' hSw; have c0 := (hSw.1.out 0 _ rfl).1; clear hSw; go_simp; try with_reducible rfl
   simp only [Act.put, zA, zB, zC]
   refine tk8 (v := .agg l.toArray) (by kernel_rfl) (by kernel_rfl) (by kernel_rfl) (fun _ _ _ h => h) (Or.inl ⟨by first | rfl | (simp [Region.wanted, yielded]; done), ?_⟩) hS ?_
   ·intro w' hSw
    exact ex_load rfl rfl (load_row 32 10 (by kernel_rfl) (by kernel_rfl) _ _ l hl1 (fun j v hv => (hSw.2.1.out j v hv).1))
   simp only [Act.put, zA, zB, zC]
   refine wpAnyH_ready (rs := [5]) (by kernel_rfl) (by simp) (st5 (fun K hK => ?_) AllReadyH.nil)
   go_simp
   refine (KV.out _ BB.out).mono ?_
   rintro _ Q1 ⟨rfl, hb⟩
   go_wp2_with fail
   replace BB := Lib.hid (BB.out.trans (hb.mono BB.out.size))
   replace X2 := Lib.hid (X2.out.bel (by simp) hb)
   replace X3 := Lib.hid (X3.out.bel hp1 hb)
   replace X6 := Lib.hid (X6.out.bel (by simp [uC]) hb)
   replace X9 := Lib.hid (X9.out.bel (by simp [uC]) hb)
   have hS : Hid (BoxL Q1 w.heap.size [.slice pd m cd, .slice pr n cr]) ∧ Hid (BoxL Q1 (w.heap.size + 1) l) ∧ Hid (BoxL Q1 b6 (uC u)) ∧ Hid (BoxL Q1 b9 (uC u)) := ⟨X2, X3, X6, X9⟩
   clear hb
   refine hK.out _ _ ?_ (fun hHeld => ?_)
   ·exact hS
   clear hK K
   try simp only [Act.put, zA, zB, zC]
   refine wpAnyH_ready (rs := [9]) (by kernel_rfl) (by simp) (st9 (fun K hK => ?_) AllReadyH.nil)
   go_simp
   refine (KW.out _ BB.out).mono ?_
   rintro _ Q2 ⟨rfl, hb⟩
   go_wp2_with fail
   replace BB := Lib.hid (BB.out.trans (hb.mono BB.out.size))
   replace X2 := Lib.hid (X2.out.bel (by simp) hb)
   replace X3 := Lib.hid (X3.out.bel hp1 hb)
   replace X6 := Lib.hid (X6.out.bel (by simp [uC]) hb)
   replace X9 := Lib.hid (X9.out.bel (by simp [uC]) hb)
   have hS : Hid (BoxL Q2 w.heap.size [.slice pd m cd, .slice pr n cr]) ∧ Hid (BoxL Q2 (w.heap.size + 1) l) ∧ Hid (BoxL Q2 b6 (uC u)) ∧ Hid (BoxL Q2 b9 (uC u)) := ⟨X2, X3, X6, X9⟩
   clear hb
   refine hK.out _ _ ?_ (fun hHeld => ?_)
   ·exact hS
   clear hK K
   try simp only [Act.put, zA, zB, zC]
   refine tk10 (v := ?_) (by kernel_rfl) (by kernel_rfl) (by kernel_rfl) (fun _ _ _ h => h) (Or.inl ⟨by first | rfl | (simp [Region.wanted, yielded]; done), ?_⟩) hS ?_
   rotate_left
   ·intro w' hSw; have c0 := (hSw.1.out 0 _ rfl).1; clear hSw; go_simp; try with_reducible rfl
   simp only [Act.put, zA, zB, zC]
   refine tk11 (v := ?_) (by kernel_rfl) (by kernel_rfl) (by kernel_rfl) (fun _ _ _ h => h) (Or.inl ⟨by first | rfl | (simp [Region.wanted, yielded]; done), ?_⟩) hS ?_
   rotate_left
   ·intro w' hSw; have c0 := (hSw.1.out 0 _ rfl).1; clear hSw; go_simp; try with_reducible rfl
   simp only [Act.put, zA, zB, zC]
   refine tk12 (v := ?_) (by kernel_rfl) (by kernel_rfl) (by kernel_rfl) (fun _ _ _ h => h) (Or.inl ⟨by first | rfl | (simp [Region.wanted, yielded]; done), ?_⟩) hS ?_
   rotate_left
   ·intro w' hSw; have c0 := (hSw.1.out 0 _ rfl).1; clear hSw; go_simp; try with_reducible rfl
   simp only [Act.put, zA, zB, zC]
   refine tk13 (v := .agg (uC u).toArray) (by kernel_rfl) (by kernel_rfl) (by kernel_rfl) (fun _ _ _ h => h) (Or.inl ⟨by first | rfl | (simp [Region.wanted, yielded]; done), ?_⟩) hS ?_
   ·intro w' hSw
    exact ex_load rfl rfl (load_row 29 4 (by kernel_rfl) (by kernel_rfl) _ _ (uC u) rfl (fun j v hv => (hSw.2.2.1.out j v hv).1))
   simp only [Act.put, zA, zB, zC]
   refine tk14 (v := .agg (uC u).toArray) (by kernel_rfl) (by kernel_rfl) (by kernel_rfl) (fun _ _ _ h => h) (Or.inl ⟨by first | rfl | (simp [Region.wanted, yielded]; done), ?_⟩) hS ?_
   ·intro w' hSw
    exact ex_load rfl rfl (load_row 29 4 (by kernel_rfl) (by kernel_rfl) _ _ (uC u) rfl (fun j v hv => (hSw.2.2.2.out j v hv).1))
   simp only [Act.put, zA, zB, zC]
   refine tk15 (v := .bool true) (by kernel_rfl) (by kernel_rfl) (by kernel_rfl) (fun _ _ _ h => h) (Or.inl ⟨by first | rfl | (simp [Region.wanted, yielded]; done), ?_⟩) hS ?_
   ·intro w' hSw
    refine (ex_eqU (u := u) (v := u) rfl rfl rfl _).trans ?_; rw [decide_eq_true rfl]
   simp only [Act.put, zA, zB, zC]
   refine tk16 (v := ?_) (by kernel_rfl) (by kernel_rfl) (by kernel_rfl) (fun _ _ _ h => h) (Or.inl ⟨by first | rfl | (simp [Region.wanted, yielded]; done), ?_⟩) hS ?_
   rotate_left
   ·intro w' hSw; have c0 := (hSw.1.out 0 _ rfl).1; clear hSw; go_simp; try with_reducible rfl
   simp only [Act.put, zA, zB, zC]
   refine tk17 (v := ?_) (by kernel_rfl) (by kernel_rfl) (by kernel_rfl) (fun _ _ _ h => h) (Or.inl ⟨by first | rfl | (simp [Region.wanted, yielded]; done), ?_⟩) hS ?_
   rotate_left
   ·intro w' hSw; have c0 := (hSw.1.out 0 _ rfl).1; clear hSw; go_simp; try with_reducible rfl
   simp only [Act.put, zA, zB, zC]
   refine tk18 (v := ?_) (by kernel_rfl) (by kernel_rfl) (by kernel_rfl) (fun _ _ _ h => h) (Or.inl ⟨by first | rfl | (simp [Region.wanted, yielded]; done), ?_⟩) hS ?_
   rotate_left
   ·intro w' hSw; have c0 := (hSw.1.out 0 _ rfl).1; clear hSw; go_simp; try with_reducible rfl
   simp only [Act.put, zA, zB, zC]
   refine tk19 (v := ?_) (by kernel_rfl) (by kernel_rfl) (by kernel_rfl) (fun _ _ _ h => h) (Or.inl ⟨by first | rfl | (simp [Region.wanted, yielded]; done), ?_⟩) hS ?_
   rotate_left
   ·intro w' hSw; have c0 := (hSw.1.out 0 _ rfl).1; clear hSw; go_simp; try with_reducible rfl
   simp only [Act.put, zA, zB, zC]
   refine tk20 (v := ?_) (by kernel_rfl) (by kernel_rfl) (by kernel_rfl) (fun _ _ _ h => h) (Or.inl ⟨by first | rfl | (simp [Region.wanted, yielded]; done), ?_⟩) hS ?_
   rotate_left
   ·intro w' hSw; have c0 := (hSw.1.out 0 _ rfl).1; clear hSw; go_simp; try with_reducible rfl
   simp only [Act.put, zA, zB, zC]
   refine tk21 (v := ?_) (by kernel_rfl) (by kernel_rfl) (by kernel_rfl) (fun _ _ _ h => h) (Or.inl ⟨by first | rfl | (simp [Region.wanted, yielded]; done), ?_⟩) hS ?_
   rotate_left
   ·intro w' hSw; have c0 := (hSw.1.out 0 _ rfl).1; clear hSw; go_simp; try with_reducible rfl
   simp only [Act.put, zA, zB, zC]
   refine tk22 (v := ?_) (by kernel_rfl) (by kernel_rfl) (by kernel_rfl) (fun _ _ _ h => h) (Or.inl ⟨by first | rfl | (simp [Region.wanted, yielded]; done), ?_⟩) hS ?_
   rotate_left
   ·intro w' hSw; have c0 := (hSw.1.out 0 _ rfl).1; clear hSw; go_simp; try with_reducible rfl
   simp only [Act.put, zA, zB, zC]
   refine tk23 (v := ?_) (by kernel_rfl) (by kernel_rfl) (by kernel_rfl) (fun _ _ _ h => h) (Or.inl ⟨by first | rfl | (simp [Region.wanted, yielded]; done), ?_⟩) hS ?_
   rotate_left
   ·intro w' hSw; have c0 := (hSw.1.out 0 _ rfl).1; clear hSw; go_simp; try with_reducible rfl
   simp only [Act.put, zA, zB, zC]
   refine tk24 (v := ?_) (by kernel_rfl) (by kernel_rfl) (by kernel_rfl) (fun _ _ _ h => h) (Or.inl ⟨by first | rfl | (simp [Region.wanted, yielded]; done), ?_⟩) hS ?_
   rotate_left
   ·intro w' hSw; have c0 := (hSw.1.out 0 _ rfl).1; clear hSw; go_simp; try with_reducible rfl
   simp only [Act.put, zA, zB, zC]
   refine tk25 (v := ?_) (by kernel_rfl) (by kernel_rfl) (by kernel_rfl) (fun _ _ _ h => h) (Or.inl ⟨by first | rfl | (simp [Region.wanted, yielded]; done), ?_⟩) hS ?_
   rotate_left
   ·intro w' hSw; have c0 := (hSw.1.out 0 _ rfl).1; clear hSw; go_simp; try with_reducible rfl
   simp only [Act.put, zA, zB, zC]
   refine tk26 (v := ?_) (by kernel_rfl) (by kernel_rfl) (by kernel_rfl) (fun _ _ _ h => h) (Or.inl ⟨by first | rfl | (simp [Region.wanted, yielded]; done), ?_⟩) hS ?_
   rotate_left
   ·intro w' hSw; have c0 := (hSw.1.out 0 _ rfl).1; clear hSw; go_simp; try with_reducible rfl
   simp only [Act.put, zA, zB, zC]
   refine tk27 (v := ?_) (by kernel_rfl) (by kernel_rfl) (by kernel_rfl) (fun _ _ _ h => h) (Or.inl ⟨by first | rfl | (simp [Region.wanted, yielded]; done), ?_⟩) hS ?_
   rotate_left
   ·intro w' hSw; have c0 := (hSw.1.out 0 _ rfl).1; clear hSw; go_simp; try with_reducible rfl
   simp only [Act.put, zA, zB, zC]
   refine tk28 (v := .agg #[.slice pd m cd, .slice pr n cr]) (by kernel_rfl) (by kernel_rfl) (by kernel_rfl) (fun _ _ _ h => h) (Or.inl ⟨by first | rfl | (simp [Region.wanted, yielded]; done), ?_⟩) hS ?_
   ·intro w' hSw
    exact ex_load rfl rfl (load_row 25 2 (by kernel_rfl) (by kernel_rfl) _ _ [.slice pd m cd, .slice pr n cr] rfl (fun j v hv => (hSw.1.out j v hv).1))
   simp only [Act.put, zA, zB, zC]
   refine tk30 (v := .agg #[.slice pd m cd, .slice pr n cr]) (by kernel_rfl) (by kernel_rfl) (by kernel_rfl) (fun _ _ _ h => h) (Or.inl ⟨by first | rfl | (simp [Region.wanted, yielded]; done), ?_⟩) hS ?_
   ·intro w' hSw
    exact ex_load rfl rfl (load_row 25 2 (by kernel_rfl) (by kernel_rfl) _ _ [.slice pd m cd, .slice pr n cr] rfl (fun j v hv => (hSw.1.out j v hv).1))
   simp only [Act.put, zA, zB, zC]
   refine wpAnyH_ready (rs := [29]) (by kernel_rfl) (by simp) (st29 (fun K hK => ?_) AllReadyH.nil)
   go_simp
   refine (KC.out _ BB.out).mono ?_
   rintro _ Q3 ⟨v1, rfl, hd, hb⟩
   go_wp2_with fail
   replace BB := Lib.hid (BB.out.trans (hb.mono BB.out.size))
   replace X2 := Lib.hid (X2.out.bel (by simp) hb)
   replace X3 := Lib.hid (X3.out.bel hp1 hb)
   replace X6 := Lib.hid (X6.out.bel (by simp [uC]) hb)
   replace X9 := Lib.hid (X9.out.bel (by simp [uC]) hb)
   have D1 := Lib.hid hd
   clear hd
   have hS : Hid (BoxL Q3 w.heap.size [.slice pd m cd, .slice pr n cr]) ∧ Hid (BoxL Q3 (w.heap.size + 1) l) ∧ Hid (BoxL Q3 b6 (uC u)) ∧ Hid (BoxL Q3 b9 (uC u)) := ⟨X2, X3, X6, X9⟩
   clear hb
   refine hK.out _ _ ?_ (fun hHeld => ?_)
   ·exact hS
   clear hK K
   try simp only [Act.put, zA, zB, zC]
   refine wpAnyH_ready (rs := [31]) (by kernel_rfl) (by simp) (st31 (fun K hK => ?_) AllReadyH.nil)
   go_simp
   refine (KD.out _ BB.out).mono ?_
   rintro _ Q4 ⟨v2, rfl, hd, hb⟩
   go_wp2_with fail
   replace BB := Lib.hid (BB.out.trans (hb.mono BB.out.size))
   replace X2 := Lib.hid (X2.out.bel (by simp) hb)
   replace X3 := Lib.hid (X3.out.bel hp1 hb)
   replace X6 := Lib.hid (X6.out.bel (by simp [uC]) hb)
   replace X9 := Lib.hid (X9.out.bel (by simp [uC]) hb)
   replace D1 := Lib.hid (D1.out.bel hb)
   have D2 := Lib.hid hd
   clear hd
   have hS : Hid (BoxL Q4 w.heap.size [.slice pd m cd, .slice pr n cr]) ∧ Hid (BoxL Q4 (w.heap.size + 1) l) ∧ Hid (BoxL Q4 b6 (uC u)) ∧ Hid (BoxL Q4 b9 (uC u)) := ⟨X2, X3, X6, X9⟩
   clear hb
   refine hK.out _ _ ?_ (fun hHeld => ?_)
   ·exact hS
   clear hK K
   try simp only [Act.put, zA, zB, zC]
   refine wpAnyH_ready (rs := [32]) (by kernel_rfl) (by simp) (st32 (fun K hK => ?_) AllReadyH.nil)
   go_simp
   refine (KS.out _ _ _ D1.out D2.out).mono ?_
   rintro _ Q5 ⟨rfl, hb⟩
   go_wp2_with fail
   replace BB := Lib.hid (BB.out.trans (hb.mono BB.out.size))
   replace X2 := Lib.hid (X2.out.bel (by simp) hb)
   replace X3 := Lib.hid (X3.out.bel hp1 hb)
   replace X6 := Lib.hid (X6.out.bel (by simp [uC]) hb)
   replace X9 := Lib.hid (X9.out.bel (by simp [uC]) hb)
   have hS : Hid (BoxL Q5 w.heap.size [.slice pd m cd, .slice pr n cr]) ∧ Hid (BoxL Q5 (w.heap.size + 1) l) ∧ Hid (BoxL Q5 b6 (uC u)) ∧ Hid (BoxL Q5 b9 (uC u)) := ⟨X2, X3, X6, X9⟩
   clear hb
   refine hK.out _ _ ?_ (fun hHeld => ?_)
   ·exact hS
   clear hK K
   try simp only [Act.put, zA, zB, zC]
   refine tk33 (v := ?_) (by kernel_rfl) (by kernel_rfl) (by kernel_rfl) (fun _ _ _ h => h) (Or.inl ⟨by first | rfl | (simp [Region.wanted, yielded]; done), ?_⟩) hS ?_
   rotate_left
   ·intro w' hSw; have c0 := (hSw.1.out 0 _ rfl).1; clear hSw; go_simp; try with_reducible rfl
   simp only [Act.put, zA, zB, zC]
   refine tk34 (v := ?_) (by kernel_rfl) (by kernel_rfl) (by kernel_rfl) (fun _ _ _ h => h) (Or.inl ⟨by first | rfl | (simp [Region.wanted, yielded]; done), ?_⟩) hS ?_
   rotate_left
   ·intro w' hSw; have c0 := (hSw.1.out 0 _ rfl).1; clear hSw; go_simp; try with_reducible rfl
   simp only [Act.put, zA, zB, zC]
   refine wpAnyH_done (by kernel_rfl) ?_ _
   clear hS
   go_wp2_with fail
   go_ret
   exact ⟨rfl, BB.out⟩
end Go.Proofs.Ytoaonficdkgfiaa
namespace Go.Proofs.Ytoaonficdkgfiaa
open Go.ChangeShapes Go.WideShapes Go.ChangeAt Go.WideMaps Go.WideElems Go.RowKit Un

theorem rule_ver {H : Type} {enc : TypeId × Value → H} {W : World} {n : Nat} {r : Ru} {y z : Kd} {x : DataW H × List MemPlace} (h : DataW.trod enc Try.prog W 0 (fun _ => true) true n 58 (rC r y z) = some x) : in64 r.ver := by
 obtain ⟨xs, k, _, _, hl, hxl, hf⟩ := DataW.trod_struct Try.underlying58 h
 obtain ⟨y1, h1⟩ := fld hxl hf 1 rfl cells_int
 have e : ((rC r y z).drop 1).take 1 = [.int .i64 r.ver] := by
  have h1 := (RuC.of r y z).f1
  rw [List.take_one, List.head?_drop, h1]
  rfl
 obtain ⟨q, hq, hi⟩ := cell_int (v := .int .i64 r.ver) (by rw [← e]; exact h1)
 injection hq with _ hq
 rw [hq]
 exact hi
/-- Rules that came in, with their expressions; their versions are numbers of 64 bits. -/
theorem trod_rulesV {H : Type} {enc : TypeId × Value → H} {W : World} {fuel : Nat} {v : Value} {x : DataW H × List MemPlace} (h : DataW.trod enc Try.prog W 0 (fun _ => true) true fuel 23 [v] = some x) :
  ∃ (rs : List Ru) (rows : List (List Value)) (a0 : Option Addr) (b off cap : Nat), v = .slice a0 rs.length cap ∧ RsM W (fun _ => True) a0 b off rs rows ∧ ∀ r ∈ rs, in64 r.ver := by
 obtain ⟨l, a0, b, off, cap, h1, h2, h3⟩ := open_rows (fun r : Ru × Kd × Kd => rC r.1 r.2.1 r.2.2) (fun r => (RuM W (fun _ => True) r.1 r.2.1 r.2.2 ∧ RuN r.1) ∧ in64 r.1.ver) (⟨[], 0, 0, [], 0, 0, 0, .mk 0 0 [] 0 0 uNum [], .mk 0 0 [] 0 0 uNum [], 0⟩, ⟨none, 0⟩, ⟨none, 0⟩) Try.underlying23 cells_rule (by omega) (fun r => rC_len _ _ _) (fun _ _ _ h => by
  obtain ⟨r, e, h2, h3⟩ := cells_rule_of h
  subst e
  exact ⟨r, rfl, ⟨h2, h3⟩, rule_ver h⟩) h
 refine ⟨l.map (·.1), l.map fun r => rC r.1 r.2.1 r.2.2, a0, b, off, cap, by rw [List.length_map]; exact h1, ⟨by rw [List.length_map]; exact h2, fun i hi h' => ?_, fun r hr => ?_⟩, fun r hr => ?_⟩
 ·simp only [List.getElem_map]
  have hm := h3 (l[i]'(by simpa using hi)) (List.getElem_mem _)
  exact ⟨_, _, RuC.of _ _ _, hm.1.1⟩
 ·obtain ⟨q, hq, rfl⟩ := List.mem_map.1 hr
  exact (h3 q hq).1.2
 ·obtain ⟨q, hq, rfl⟩ := List.mem_map.1 hr
  exact (h3 q hq).2
theorem open_codexV {H : Type} {enc : TypeId × Value → H} {W : World} {cs : Array Value} {d : DataW H} {ps : List MemPlace} (h : DataW.Trod enc Try.prog W 0 (fun _ => true) true 25 (.agg cs) d ps) :
  ∃ (L : List Dc) (rs : List Ru) (rows : List (List Value)) (pd pr : Option Addr) (bd od cd br orr cr : Nat), (.agg cs : Value) = .agg #[.slice pd L.length cd, .slice pr rs.length cr] ∧ SlR W pd bd od L.length 8 (L.map dC) ∧ RsM W (fun _ => True) pr br orr rs rows ∧ ∀ r ∈ rs, in64 r.ver := by
 obtain ⟨fuel, h⟩ := h
 obtain ⟨xs, k, _, _, hl, hxl, hf⟩ := DataW.trod_struct Try.underlying25 h
 rw [cells_codex] at hl
 obtain ⟨y0, h0⟩ := fld hxl hf 0 rfl cells_decls
 obtain ⟨y1, h1⟩ := fld hxl hf 1 rfl cells_rules
 simp only [Value.cells] at hl h0 h1
 obtain ⟨cs⟩ := cs
 obtain ⟨v0, v1, rfl⟩ := list2 hl
 obtain ⟨L, pd, bd, od, cd, rfl, hD⟩ := trod_decls h0
 obtain ⟨rs, rows, pr, br, orr, cr, rfl, hR, hV⟩ := trod_rulesV h1
 exact ⟨L, rs, rows, pd, pr, bd, od, cd, br, orr, cr, rfl, hD, hR, hV⟩
end Go.Proofs.Ytoaonficdkgfiaa
