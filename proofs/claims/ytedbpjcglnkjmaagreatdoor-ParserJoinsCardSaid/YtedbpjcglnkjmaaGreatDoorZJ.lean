/-
  Single operations on rows of many cells, by laws of their own; a rule's 28 cells.
  Contract of the parser: rule.
  Contract of the parser: declaration, which reads a fact or a rule.
-/
import Derived.Test.YtedbpjcglnkjmaaGreatDoorZC
import Derived.Test.YtedbpjcglnkjmaaGreatDoorZI
import Derived.Deep.WholeRow
namespace Go.Proofs.YtedbpjcglnkjmaaGreatDoor
open Go.RowKit Lx Pa

section
variable {P : Program} {o : Oper} {a : Act} {w w' : World} {K : Act → World → Prop} {Q : Exit → Act → World → Prop} {t : TypeId} {v : Value}
theorem wp_build {l : List (Nat × Operand)} (ho : o.op = .build t l.toArray) (hr : (Instr.build t (l.map fun (i, x) => (i, a.eval x)).toArray).run P w = .ok v w') (h : K (a.put o.dst v) w') : Oper.wp P o a w K Q := by
  unfold Oper.wp execOp
  simp only [ho, Sem.run_bind, Sem.run_pure, List.map_toArray, hr]
  exact h
theorem wp_alloc (ho : o.op = .alloc t) (hr : (Instr.alloc t true (.tuple #[])).run P w = .ok v w') (h : K (a.put o.dst v) w') : Oper.wp P o a w K Q := by
  unfold Oper.wp execOp
  simp only [ho, Sem.run_bind, Sem.run_pure, hr]
  exact h
theorem wp_load {x : Operand} {y : Value} (ho : o.op = .load t x) (hx : a.eval x = y) (hr : (Instr.loadAt t y).run P w = .ok v w') (h : K (a.put o.dst v) w') : Oper.wp P o a w K Q := by
  unfold Oper.wp execOp
  simp only [ho, Sem.run_bind, Sem.run_pure, hx, hr]
  exact h
theorem ex_load {x : Operand} {y : Value} {ρ : Operand → Value} (ho : o.op = .load t x) (hx : ρ x = y) (hr : (Instr.loadAt t y).run P w = .ok v w') : (execOp ρ o).run P w = .ok (.value v) w' := by
  unfold execOp
  simp only [ho, Sem.run_bind, Sem.run_pure, hx, hr]
  rfl
theorem wp_store {x z : Operand} {y u : Value} (ho : o.op = .store t x z) (hx : a.eval x = y) (hz : a.eval z = u) (hr : (Instr.storeAt t y u).run P w = .ok () w') (h : K (a.put o.dst undef) w') : Oper.wp P o a w K Q := by
  unfold Oper.wp execOp
  simp only [ho, Sem.run_bind, Sem.run_pure, hx, hz, hr]
  exact h
theorem wp_slice1 {x : Operand} {y : Value} (ho : o.op = .buildSlice t 1 #[(0, x)]) (hx : a.eval x = y) (hr : (Instr.buildSlice t 1 #[(0, y)]).run P w = .ok v w') (h : K (a.put o.dst v) w') : Oper.wp P o a w K Q := by
  unfold Oper.wp execOp
  simp only [ho, Sem.run_bind, Sem.run_pure, List.map_toArray, List.map_cons, List.map_nil, hx, hr]
  exact h
end
section
variable {P : Program} {ops : Array Oper} {rest : List Oper} {o : Oper} {a : Act} {w w' : World} {Q : Exit → Act → World → Prop} {t : TypeId} {v : Value}
theorem wl_build {l : List (Nat × Operand)} (hgd : o.guard = none) (ho : o.op = .build t l.toArray) (hr : (Instr.build t (l.map fun (i, x) => (i, a.eval x)).toArray).run P w = .ok v w') (h : wpList P ops Q rest (a.put o.dst v) w') : wpList P ops Q (o :: rest) a w := wpList_plain hgd fun _ hK => wp_build ho hr (hK _ _ h)
theorem wl_alloc (hgd : o.guard = none) (ho : o.op = .alloc t) (hr : (Instr.alloc t true (.tuple #[])).run P w = .ok v w') (h : wpList P ops Q rest (a.put o.dst v) w') : wpList P ops Q (o :: rest) a w := wpList_plain hgd fun _ hK => wp_alloc ho hr (hK _ _ h)
theorem wl_store {x z : Operand} {y u : Value} (hgd : o.guard = none) (ho : o.op = .store t x z) (hx : a.eval x = y) (hz : a.eval z = u) (hr : (Instr.storeAt t y u).run P w = .ok () w') (h : wpList P ops Q rest (a.put o.dst undef) w') : wpList P ops Q (o :: rest) a w := wpList_plain hgd fun _ hK => wp_store ho hx hz hr (hK _ _ h)
end
def zRule : Array Value := #[.string ⟨#[]⟩, .int .i64 0, .int .i64 0, .string ⟨#[]⟩, .int .i64 0, .int .i64 0, .int .i64 0, .int .i64 0, .int .i64 0, .string ⟨#[]⟩, .int .i64 0, .int .i64 0, .bool false, .int .i64 0, .int .i64 0, .int .i64 0, .slice none 0 0, .int .i64 0, .int .i64 0, .string ⟨#[]⟩, .int .i64 0, .int .i64 0, .bool false, .int .i64 0, .int .i64 0, .int .i64 0, .slice none 0 0, .int .i64 0]
theorem zero_rule (w : World) : (zeroValue 63).run Tryz.prog w = .ok (.agg zRule) w := by kernel_rfl
theorem alloc_rule (w : World) : (Instr.alloc 63 true (.tuple #[])).run Tryz.prog w = .ok (.pointer (some ⟨w.heap.size, 0, none⟩)) (w.alloc (.cells zRule 63)) := by
  unfold Instr.alloc
  simp only [Sem.run_bind, zero_rule, Result.andThen]
  rfl
theorem build_rule (nm : ByteArray) (ver at0 kd : Int) (w : World) : (Instr.build 63 #[(8, .int .i64 at0), (2, .int .i64 kd), (0, .string nm), (1, .int .i64 ver)]).run Tryz.prog w = .ok (.agg #[.string nm, .int .i64 ver, .int .i64 kd, .string ⟨#[]⟩, .int .i64 0, .int .i64 0, .int .i64 0, .int .i64 0, .int .i64 0, .string ⟨#[]⟩, .int .i64 0, .int .i64 0, .bool false, .int .i64 0, .int .i64 0, .int .i64 0, .slice none 0 0, .int .i64 0, .int .i64 0, .string ⟨#[]⟩, .int .i64 0, .int .i64 0, .bool false, .int .i64 0, .int .i64 0, .int .i64 0, .slice none 0 0, .int .i64 at0]) w := by kernel_rfl
theorem store_rule (A : Array Value) (h : A.size = 28) (h1 : A.all (·.oneCell') = true) (w : World) : (Instr.storeAt 63 (.pointer (some ⟨w.heap.size, 0, none⟩)) (.agg A)).run Tryz.prog (w.alloc (.cells zRule 63)) = .ok () (w.alloc (.cells A 63)) :=
  run_storeAt_new w _ _ _ (by rw [h]; kernel_rfl) (by rw [h]; rfl) h1
theorem slice_rule (x0 x1 x2 x3 x4 x5 x6 x7 x8 x9 x10 x11 x12 x13 x14 x15 x16 x17 x18 x19 x20 x21 x22 x23 x24 x25 x26 x27 : Value) (w : World) : (Instr.buildSlice 24 1 #[(0, .agg #[x0, x1, x2, x3, x4, x5, x6, x7, x8, x9, x10, x11, x12, x13, x14, x15, x16, x17, x18, x19, x20, x21, x22, x23, x24, x25, x26, x27])]).run Tryz.prog w = .ok (.slice (some ⟨w.heap.size, 0, none⟩) 1 1) (w.alloc (.cells #[x0, x1, x2, x3, x4, x5, x6, x7, x8, x9, x10, x11, x12, x13, x14, x15, x16, x17, x18, x19, x20, x21, x22, x23, x24, x25, x26, x27] 63)) := by kernel_rfl
theorem load_row (T n : Nat) (hu : (Tryz.prog.underlying T).map (fun d => match d with | .struct _ | .array _ _ => true | _ => false) = some true) (hi : (Tryz.prog.info? T).map (·.size) = some n) (w : World) (b : Nat) (l : List Value) (hl : l.length = n) (h : ∀ j v, l[j]? = some v → w.cell? ⟨b, j, none⟩ = some v) : (Instr.loadAt T (.pointer (some ⟨b, 0, none⟩))).run Tryz.prog w = .ok (.agg l.toArray) w := by
  have hc : (loadCells ⟨b, 0, none⟩ l.length).run Tryz.prog w = .ok l.toArray w := run_loadCells_list (P := Tryz.prog) w ⟨b, 0, none⟩ l (fun j v hv => by
      have hadd : (⟨b, 0, none⟩ : Addr).add j = ⟨b, j, none⟩ := by unfold Addr.add; split <;> simp_all
      rw [hadd]; exact h j v hv)
  obtain ⟨d, hd, hd2⟩ := Option.map_eq_some_iff.1 hu
  obtain ⟨i, hi1, hi2⟩ := Option.map_eq_some_iff.1 hi
  subst hl
  have hagg : (isAgg T).run Tryz.prog w = .ok true w := by
    unfold isAgg
    rw [Sem.run_bind, run_underlying hd w]
    cases d <;> simp_all
  simp [Instr.loadAt, Instr.sureAddr, loadVar, Sem.run_bind, hagg, sizeOf, typeInfo, hi1, hi2, hc]
theorem load_rule (w : World) (b : Nat) (l : List Value) (hl : l.length = 28) (h : ∀ j v, l[j]? = some v → w.cell? ⟨b, j, none⟩ = some v) : (Instr.loadAt 63 (.pointer (some ⟨b, 0, none⟩))).run Tryz.prog w = .ok (.agg l.toArray) w :=
  load_row _ 28 (by kernel_rfl) (by kernel_rfl) w b l hl h
end Go.Proofs.YtedbpjcglnkjmaaGreatDoor
namespace Go.Proofs.YtedbpjcglnkjmaaGreatDoor
open Go.RowKit Lx Pa

theorem wp_seq_cut {P : Program} {c d : Code} {Q : Exit → Act → World → Prop} {a : Act} {w : World} (J0 : Act → World → Prop) (hK : ∀ a w, J0 a w → d.wp P Q a w)
    (h : ∀ (J : Nat → Act → World → Prop) (K : Act → World → Prop), (∀ k a w, J0 a w → J k a w) → (∀ a w, Handed J 1 a w → K a w) → c.wp P (Exit.then K Q) a w) : (c.seq d).wp P Q a w := by
  refine wp_seq ?_
  refine Code.wp_mono (fun e a w h => ?_) (h (fun _ => J0) (fun a w => Handed (fun _ => J0) 1 a w) (fun _ _ _ h => h) (fun _ _ h => h))
  cases e with
  | normal => obtain ⟨n, -, h⟩ := h; exact hK _ _ h
  | exit id => exact h
  | goto l => exact h
  | ret => exact h
  | panic ch => exact h
  | outgrown => exact h
theorem leaf_when (w : World) (A : Nat → Prop) (ofs : Nat → Int) (pl : Nat) : NodeA w A ofs (noWhen pl) ⟨17, ofs pl, ⟨#[]⟩, 0, 0, false, 0, 0, 0, none, 0, 0⟩ := by
  unfold noWhen NodeA
  exact ⟨⟨rfl, rfl, rfl, rfl, rfl, rfl, rfl, rfl, rfl, rfl⟩, 0, 0, fun h => absurd h (by simp), by simp only [KidsA]⟩
theorem leaf_give (w : World) (A : Nat → Prop) (ofs : Nat → Int) (pl : Nat) : NodeA w A ofs (noGive pl) ⟨1, ofs pl, ⟨#[]⟩, 0, 1, false, 0, 0, 0, none, 0, 0⟩ := by
  unfold noGive NodeA
  exact ⟨⟨rfl, rfl, rfl, rfl, rfl, rfl, rfl, rfl, rfl, rfl⟩, 0, 0, fun h => absurd h (by simp), by simp only [KidsA]⟩
/-- The frame of rule, whatever is in the temporaries that are not read any more. -/
inductive IsAct (b cb bq : Nat) (at0 kd : Int) : Act → Prop where
  | mk (u4 u5 u6 u7 u9 u10 u11 u12 u13 u14 u15 u16 u17 u18 u19 u20 u21 u22 u23 u24 u25 u26 u27 u28 u29 u30 u31 u32 u33 u34 u35 u36 u37 u38 u39 u40 u41 u42 u43 u44 u45 u46 u47 u48 u49 u50 u51 u52 u53 u54 u55 u56 u57 u58 u59 u60 u61 u62 u63 u64 u65 u66 u67 u68 u69 u70 u71 u72 u73 : Value) : IsAct b cb bq at0 kd { tmps := #[.pointer (some ⟨b, 0, none⟩), .pointer (some ⟨cb, 0, none⟩), .int .i64 at0, .int .i64 kd, u4, u5, u6, u7, .pointer (some ⟨bq, 0, none⟩), u9, u10, u11, u12, u13, u14, u15, u16, u17, u18, u19, u20, u21, u22, u23, u24, u25, u26, u27, u28, u29, u30, u31, u32, u33, u34, u35, u36, u37, u38, u39, u40, u41, u42, u43, u44, u45, u46, u47, u48, u49, u50, u51, u52, u53, u54, u55, u56, u57, u58, u59, u60, u61, u62, u63, u64, u65, u66, u67, u68, u69, u70, u71, u72, u73], defers := [] }
section
variable {b cap qb En mb base cb gx : Nat} {p : Option Addr} {ts : List Tok} {ds : List Decl} {rs : List Rule} {vd vr : Value} {ns : List (NV × NV)}
set_option maxRecDepth 100000 in
set_option maxHeartbeats 12000000 in
theorem rule_any (full : Bool) (pl k kdn : Nat) (w : World) (h : Rd w b p cap qb ts En mb k) (hC : Cx w base cb gx (offs ts En) ds rs vd vr ns) (hfl : ((rs.length : Int) == 100) = full) (hbb : b < base ∧ b ≠ cb ∧ mb < base ∧ mb ≠ cb ∧ (0 < ts.length → qb < base ∧ qb ≠ cb) ∧ base ≤ w.heap.size) (hgx : gx < w.heap.size) (hdl : rs.length ≤ 1000) :
    Calls Tryz.prog 67 #[.pointer (some ⟨b, 0, none⟩), .pointer (some ⟨cb, 0, none⟩), .int .i64 (offs ts En pl), .int .i64 (kdn : Nat)] w fun e w' => PostD w b p cap qb ts En mb base cb gx vd vr (dSet ds) (rSet rs) ((ruleO full pl kdn (ts.drop k)).bind fun d r => .ok (Pa.Item.rule d) r) e w' := by
  have hbl : b < w.heap.size := h.lt
  have hcl := hC.at2.lt
  have hcb := hC.lt
  obtain ⟨q, rc, rfl⟩ := own_slice hC.rr
  have HC := Lib.hid hC
  have S0 := Lib.hid (Sx.start h)
  obtain ⟨at0, hat⟩ : ∃ z, z = offs ts En pl := ⟨_, rfl⟩
  rw [← hat]
  have HAT := Lib.hid hat
  obtain ⟨kd, hkd⟩ : ∃ z : Int, z = (kdn : Nat) := ⟨_, rfl⟩
  rw [← hkd]
  have HKD := Lib.hid hkd
  generalize hO : ((ruleO full pl kdn (ts.drop k)).bind fun d r => .ok (Pa.Item.rule d) r : Out Pa.Item) = O
  unfold ruleO at hO
  have bind_bind : ∀ {α β γ : Type} (x : Out α) (f : α → List Tok → Out β) (g : β → List Tok → Out γ), (x.bind f).bind g = x.bind fun a r => (f a r).bind g := fun x f g => by cases x <;> rfl
  simp only [bind_bind, bind_ok] at hO
  have HO := Lib.hid hO
  clear hO hat hkd h hC bind_bind
  go_enter Tryz.func67, Tryz.ntmps67
  obtain ⟨K0, hK0⟩ : ∃ K0 : Act → World → Prop, K0 = (fun a V => ∃ (bq k1 : Nat) (nm : List UInt8) (ver : Int), IsAct b cb bq at0 kd a ∧ w.heap.size ≤ bq ∧ bq < V.heap.size ∧ Hid (Sx w V b p cap qb ts En mb k1) ∧ Hid (BoxL V bq [.string (bs nm), .int .i64 ver, .int .i64 kd, .string ⟨#[]⟩, .int .i64 0, .int .i64 0, .int .i64 0, .int .i64 0, .int .i64 0, .string ⟨#[]⟩, .int .i64 0, .int .i64 0, .bool false, .int .i64 0, .int .i64 0, .int .i64 0, .slice none 0 0, .int .i64 0, .int .i64 0, .string ⟨#[]⟩, .int .i64 0, .int .i64 0, .bool false, .int .i64 0, .int .i64 0, .int .i64 0, .slice none 0 0, .int .i64 at0]) ∧ Hid (((optO kAbout nameO [] (ts.drop k1)).bind fun ac r3 => (need kFrom r3).bind fun _ r4 => (wholeO r4).bind fun fr r5 => (optO kUntil wholeO 36525 r5).bind fun un r6 => (need kKnown r6).bind fun _ r7 => (wholeO r7).bind fun kn r8 => (optO kWhen (limited M0) (noWhen pl) r8).bind fun wh r9 => (optO kGive (limited M0) (noGive pl) r9).bind fun gi r10 => (finO full pl r10).bind fun _ r11 => Out.ok (Pa.Item.rule ⟨nm, ver, kdn, ac, fr, un, kn, wh, gi, pl⟩) r11 : Out Pa.Item) = O)) := ⟨_, rfl⟩
  have HK0 := Lib.hid hK0
  clear hK0
  refine wp_seq_cut K0 ?_ ?_
  rotate_left
  · intro J K hJ hK
    have HJ := Lib.hid hJ
    clear hJ
    go_wp2_with fail
    have KS := Lib.hid (name_any _ S0.out.rd)
    generalize nameO (ts.drop k) = oo at KS HO 
    refine KS.out.mono ?_
    cases oo with
    | er E q m =>
      rintro _ v1 ⟨k', rfl, hkp, hrd, hm⟩
      have SE := Lib.hid (S0.out.call hkp hrd)
      go_wp2_with fail
      exact bodyPost_panic rfl (PostD.er HO.out.symm rfl hm SE.out)
    | ok nm r =>
      rintro _ v1 ⟨_, k1, rfl, rfl, hkp, hrd, rfl⟩
      have S1 := Lib.hid (S0.out.call hkp hrd)
      have hsz_v1 := hkp.size
      have HO2 := HO.out
      rw [bind_ok] at HO2
      replace HO := Lib.hid HO2
      clear HO2 hkp hrd KS
      clear S0
      go_wp2_with fail
      have KS := Lib.hid (whole_any v1 S1.out.rd)
      generalize wholeO (ts.drop k1) = oo at KS HO 
      refine KS.out.mono ?_
      cases oo with
      | er E q m =>
        rintro _ v2 ⟨k', rfl, hkp, hrd, hm⟩
        have SE := Lib.hid (S1.out.call hkp hrd)
        go_wp2_with fail
        exact bodyPost_panic rfl (PostD.er HO.out.symm rfl hm SE.out)
      | ok ver r =>
        rintro _ v2 ⟨_, k2, rfl, rfl, hkp, hrd, rfl⟩
        have S2 := Lib.hid (S1.out.call hkp hrd)
        have hsz_v2 := hkp.size
        have HO2 := HO.out
        rw [bind_ok] at HO2
        replace HO := Lib.hid HO2
        clear HO2 hkp hrd KS
        rename_i hk2
        obtain ⟨A, hA⟩ : ∃ A : List Value, A = [.string (bs nm), .int .i64 ver, .int .i64 kd, .string ⟨#[]⟩, .int .i64 0, .int .i64 0, .int .i64 0, .int .i64 0, .int .i64 0, .string ⟨#[]⟩, .int .i64 0, .int .i64 0, .bool false, .int .i64 0, .int .i64 0, .int .i64 0, .slice none 0 0, .int .i64 0, .int .i64 0, .string ⟨#[]⟩, .int .i64 0, .int .i64 0, .bool false, .int .i64 0, .int .i64 0, .int .i64 0, .slice none 0 0, .int .i64 at0] := ⟨_, rfl⟩
        have hsA : A.toArray.size = 28 := by rw [hA]; rfl
        have hoA : A.toArray.all (·.oneCell') = true := by rw [hA]; simp [Value.oneCell']
        have bl := (Below.refl v2.heap.size v2).alloc (Nat.le_refl _) (.cells A.toArray 63)
        have S3 := Lib.hid (S2.out.bel bl)
        have D3 := Lib.hid (BoxL.new v2 A 63)
        clear bl S2
        have hsz3 : (v2.alloc (.cells A.toArray 63)).heap.size = v2.heap.size + 1 := by simp
        refine hk2 _ _ ?_
        refine wl_build rfl rfl (v := .agg A.toArray) (by rw [hA]; exact build_rule _ _ _ _ _) ?_
        simp only [Act.put, List.setIfInBounds_toArray, List.set_cons_zero, List.set_cons_succ]
        refine wl_alloc rfl rfl (alloc_rule _) ?_
        simp only [Act.put, List.setIfInBounds_toArray, List.set_cons_zero, List.set_cons_succ]
        refine wl_store rfl rfl rfl rfl (store_rule A.toArray hsA hoA _) ?_
        generalize v2.alloc (.cells A.toArray 63) = V2 at *
        replace D3 := Lib.hid (hA ▸ D3.out)
        generalize A.toArray = AA at *
        clear hk2 hA hsA hoA
        go_wp2_with fail
        refine Handed.intro 0 (by decide) (HJ.out 0 _ _ ?_)
        rw [HK0.out]
        exact ⟨v2.heap.size, k2, nm, ver, by constructor, by omega, by omega, S3, D3, HO⟩
  rw [HK0.out]
  clear HK0
  rintro a v ⟨bq, k1, nm, ver, ha, hbq, hbv, S1, D1, HO⟩
  cases ha
  have ND : bq ≠ b := by omega
  obtain ⟨K0, hK0⟩ : ∃ K0 : Act → World → Prop, K0 = (fun a V => ∃ (bq k1 : Nat) (nm : List UInt8) (ver : Int) (ac : List UInt8), IsAct b cb bq at0 kd a ∧ w.heap.size ≤ bq ∧ bq < V.heap.size ∧ Hid (Sx w V b p cap qb ts En mb k1) ∧ Hid (BoxL V bq [.string (bs nm), .int .i64 ver, .int .i64 kd, .string (bs ac), .int .i64 0, .int .i64 0, .int .i64 0, .int .i64 0, .int .i64 0, .string ⟨#[]⟩, .int .i64 0, .int .i64 0, .bool false, .int .i64 0, .int .i64 0, .int .i64 0, .slice none 0 0, .int .i64 0, .int .i64 0, .string ⟨#[]⟩, .int .i64 0, .int .i64 0, .bool false, .int .i64 0, .int .i64 0, .int .i64 0, .slice none 0 0, .int .i64 at0]) ∧ Hid (((need kFrom (ts.drop k1)).bind fun _ r4 => (wholeO r4).bind fun fr r5 => (optO kUntil wholeO 36525 r5).bind fun un r6 => (need kKnown r6).bind fun _ r7 => (wholeO r7).bind fun kn r8 => (optO kWhen (limited M0) (noWhen pl) r8).bind fun wh r9 => (optO kGive (limited M0) (noGive pl) r9).bind fun gi r10 => (finO full pl r10).bind fun _ r11 => Out.ok (Pa.Item.rule ⟨nm, ver, kdn, ac, fr, un, kn, wh, gi, pl⟩) r11 : Out Pa.Item) = O)) := ⟨_, rfl⟩
  have HK0 := Lib.hid hK0
  clear hK0
  refine wp_seq_cut K0 ?_ ?_
  rotate_left
  · intro J K hJ hK
    have HJ := Lib.hid hJ
    clear hJ
    have HO2 := HO.out
    unfold optO at HO2
    cases hw : isW kAbout (ts.drop k1) with
    | true =>
      rw [hw, if_pos rfl, List.tail_drop] at HO2
      replace HO := Lib.hid HO2
      have KB := Lib.hid (passes_any (k := k1) kAbout (by decide) v S1.out.rd)
      rw [hw, if_pos rfl] at KB
      clear HO2
      go_wp2_with fail
      refine KB.out.mono ?_
      rintro _ v2 ⟨rfl, hkp, hrd⟩
      have hsp := hkp.size
      have S2 := Lib.hid (S1.out.call hkp hrd)
      have D2 := Lib.hid (D1.out.call (by simp) hkp ND)
      clear hkp hrd KB S1 D1 
      go_wp2_with fail
      have KS := Lib.hid (name_any v2 S2.out.rd)
      generalize nameO (ts.drop (k1 + 1)) = oo at KS HO 
      refine KS.out.mono ?_
      cases oo with
      | er E q m =>
        rintro _ v3 ⟨k', rfl, hkp, hrd, hm⟩
        have SE := Lib.hid (S2.out.call hkp hrd)
        go_wp2_with fail
        exact bodyPost_panic rfl (PostD.er HO.out.symm rfl hm SE.out)
      | ok ac r =>
        rintro _ v3 ⟨_, k2, rfl, rfl, hkp, hrd, rfl⟩
        have S3 := Lib.hid (S2.out.call hkp hrd)
        have D3 := Lib.hid (D2.out.call (by simp) hkp ND)
        have hsz_v3 := hkp.size
        have HO2 := HO.out
        rw [bind_ok] at HO2
        replace HO := Lib.hid HO2
        clear HO2 hkp hrd KS
        obtain ⟨c3, f3⟩ := D3.out 3 _ rfl
        go_wp2_with fail
        have S4 := Lib.hid (S3.out.other (by omega) 3 (.string (bs ac)))
        have D4 := Lib.hid (D3.out.set 3 (.string (bs ac)))
        simp only [List.set_cons_zero, List.set_cons_succ] at D4
        have hsz_w : (v3.setCell ⟨bq, 3, none⟩ (.string (bs ac))).heap.size = v3.heap.size := by simp [World.setCell]
        refine Handed.intro 0 (by decide) (HJ.out 0 _ _ ?_)
        rw [HK0.out]
        exact ⟨bq, k2, nm, ver, ac, by constructor, hbq, by omega, S4, D4, HO⟩
    | false =>
      rw [hw, if_neg (by simp), bind_ok] at HO2
      replace HO := Lib.hid HO2
      have KB := Lib.hid (passes_any (k := k1) kAbout (by decide) v S1.out.rd)
      rw [hw, if_neg (by simp)] at KB
      clear HO2
      go_wp2_with fail
      refine KB.out.mono ?_
      rintro _ v2 ⟨rfl, hkp, hrd⟩
      have hsp := hkp.size
      have S2 := Lib.hid (S1.out.call hkp hrd)
      have D2 := Lib.hid (D1.out.call (by simp) hkp ND)
      clear hkp hrd KB S1 D1 
      go_wp2_with fail
      refine Handed.intro 0 (by decide) (HJ.out 0 _ _ ?_)
      rw [HK0.out]
      exact ⟨bq, k1, nm, ver, [], by constructor, hbq, by omega, S2, D2, HO⟩
  rw [HK0.out]
  clear HK0
  rintro a v ⟨bq, k1, nm, ver, ac, ha, hbq, hbv, S1, D1, HO⟩
  cases ha
  have ND : bq ≠ b := by omega
  obtain ⟨K0, hK0⟩ : ∃ K0 : Act → World → Prop, K0 = (fun a V => ∃ (bq k1 : Nat) (nm : List UInt8) (ver : Int) (ac : List UInt8), IsAct b cb bq at0 kd a ∧ w.heap.size ≤ bq ∧ bq < V.heap.size ∧ Hid (Sx w V b p cap qb ts En mb k1) ∧ Hid (BoxL V bq [.string (bs nm), .int .i64 ver, .int .i64 kd, .string (bs ac), .int .i64 0, .int .i64 0, .int .i64 0, .int .i64 0, .int .i64 0, .string ⟨#[]⟩, .int .i64 0, .int .i64 0, .bool false, .int .i64 0, .int .i64 0, .int .i64 0, .slice none 0 0, .int .i64 0, .int .i64 0, .string ⟨#[]⟩, .int .i64 0, .int .i64 0, .bool false, .int .i64 0, .int .i64 0, .int .i64 0, .slice none 0 0, .int .i64 at0]) ∧ Hid (((wholeO (ts.drop k1)).bind fun fr r5 => (optO kUntil wholeO 36525 r5).bind fun un r6 => (need kKnown r6).bind fun _ r7 => (wholeO r7).bind fun kn r8 => (optO kWhen (limited M0) (noWhen pl) r8).bind fun wh r9 => (optO kGive (limited M0) (noGive pl) r9).bind fun gi r10 => (finO full pl r10).bind fun _ r11 => Out.ok (Pa.Item.rule ⟨nm, ver, kdn, ac, fr, un, kn, wh, gi, pl⟩) r11 : Out Pa.Item) = O)) := ⟨_, rfl⟩
  have HK0 := Lib.hid hK0
  clear hK0
  refine wp_seq_cut K0 ?_ ?_
  rotate_left
  · intro J K hJ hK
    have HJ := Lib.hid hJ
    clear hJ
    go_wp2_with fail
    have KS := Lib.hid (need_any kFrom (by decide) v S1.out.rd)
    generalize need kFrom (ts.drop k1) = oo at KS HO 
    refine KS.out.mono ?_
    cases oo with
    | er E q m =>
      rintro _ v3 ⟨k', rfl, hkp, hrd, hm⟩
      have SE := Lib.hid (S1.out.call hkp hrd)
      go_wp2_with fail
      exact bodyPost_panic rfl (PostD.er HO.out.symm rfl hm SE.out)
    | ok u0 r =>
      rintro _ v3 ⟨_, k2, rfl, rfl, hkp, hrd, rfl⟩
      have S3 := Lib.hid (S1.out.call hkp hrd)
      have D3 := Lib.hid (D1.out.call (by simp) hkp ND)
      have hsz_v3 := hkp.size
      have HO2 := HO.out
      rw [bind_ok] at HO2
      replace HO := Lib.hid HO2
      clear HO2 hkp hrd KS
      go_wp2_with fail
      refine Handed.intro 0 (by decide) (HJ.out 0 _ _ ?_)
      rw [HK0.out]
      exact ⟨bq, k2, nm, ver, ac, by constructor, hbq, by omega, S3, D3, HO⟩
  rw [HK0.out]
  clear HK0
  rintro a v ⟨bq, k1, nm, ver, ac, ha, hbq, hbv, S1, D1, HO⟩
  cases ha
  have ND : bq ≠ b := by omega
  obtain ⟨K0, hK0⟩ : ∃ K0 : Act → World → Prop, K0 = (fun a V => ∃ (bq k1 : Nat) (nm : List UInt8) (ver : Int) (ac : List UInt8) (fr : Int), IsAct b cb bq at0 kd a ∧ w.heap.size ≤ bq ∧ bq < V.heap.size ∧ Hid (Sx w V b p cap qb ts En mb k1) ∧ Hid (BoxL V bq [.string (bs nm), .int .i64 ver, .int .i64 kd, .string (bs ac), .int .i64 fr, .int .i64 36525, .int .i64 0, .int .i64 0, .int .i64 0, .string ⟨#[]⟩, .int .i64 0, .int .i64 0, .bool false, .int .i64 0, .int .i64 0, .int .i64 0, .slice none 0 0, .int .i64 0, .int .i64 0, .string ⟨#[]⟩, .int .i64 0, .int .i64 0, .bool false, .int .i64 0, .int .i64 0, .int .i64 0, .slice none 0 0, .int .i64 at0]) ∧ Hid (((optO kUntil wholeO 36525 (ts.drop k1)).bind fun un r6 => (need kKnown r6).bind fun _ r7 => (wholeO r7).bind fun kn r8 => (optO kWhen (limited M0) (noWhen pl) r8).bind fun wh r9 => (optO kGive (limited M0) (noGive pl) r9).bind fun gi r10 => (finO full pl r10).bind fun _ r11 => Out.ok (Pa.Item.rule ⟨nm, ver, kdn, ac, fr, un, kn, wh, gi, pl⟩) r11 : Out Pa.Item) = O)) := ⟨_, rfl⟩
  have HK0 := Lib.hid hK0
  clear hK0
  refine wp_seq_cut K0 ?_ ?_
  rotate_left
  · intro J K hJ hK
    have HJ := Lib.hid hJ
    clear hJ
    go_wp2_with fail
    have KS := Lib.hid (whole_any v S1.out.rd)
    generalize wholeO (ts.drop k1) = oo at KS HO 
    refine KS.out.mono ?_
    cases oo with
    | er E q m =>
      rintro _ v3 ⟨k', rfl, hkp, hrd, hm⟩
      have SE := Lib.hid (S1.out.call hkp hrd)
      go_wp2_with fail
      exact bodyPost_panic rfl (PostD.er HO.out.symm rfl hm SE.out)
    | ok fr r =>
      rintro _ v3 ⟨_, k2, rfl, rfl, hkp, hrd, rfl⟩
      have S3 := Lib.hid (S1.out.call hkp hrd)
      have D3 := Lib.hid (D1.out.call (by simp) hkp ND)
      have hsz_v3 := hkp.size
      have HO2 := HO.out
      rw [bind_ok] at HO2
      replace HO := Lib.hid HO2
      clear HO2 hkp hrd KS
      obtain ⟨c4, f4⟩ := D3.out 4 _ rfl
      obtain ⟨c5, f5⟩ := D3.out 5 _ rfl
      go_wp2_with fail
      have S4 := Lib.hid ((S3.out.other (by omega) 4 (.int .i64 fr)).other (by omega) 5 (.int .i64 36525))
      have D4 := Lib.hid ((D3.out.set 4 (.int .i64 fr)).set 5 (.int .i64 36525))
      simp only [List.set_cons_zero, List.set_cons_succ] at D4
      have hsz_w : ((v3.setCell ⟨bq, 4, none⟩ (.int .i64 fr)).setCell ⟨bq, 5, none⟩ (.int .i64 36525)).heap.size = v3.heap.size := by simp [World.setCell]
      refine Handed.intro 0 (by decide) (HJ.out 0 _ _ ?_)
      rw [HK0.out]
      exact ⟨bq, k2, nm, ver, ac, fr, by constructor, hbq, by omega, S4, D4, HO⟩
  rw [HK0.out]
  clear HK0
  rintro a v ⟨bq, k1, nm, ver, ac, fr, ha, hbq, hbv, S1, D1, HO⟩
  cases ha
  have ND : bq ≠ b := by omega
  obtain ⟨K0, hK0⟩ : ∃ K0 : Act → World → Prop, K0 = (fun a V => ∃ (bq k1 : Nat) (nm : List UInt8) (ver : Int) (ac : List UInt8) (fr : Int) (un : Int), IsAct b cb bq at0 kd a ∧ w.heap.size ≤ bq ∧ bq < V.heap.size ∧ Hid (Sx w V b p cap qb ts En mb k1) ∧ Hid (BoxL V bq [.string (bs nm), .int .i64 ver, .int .i64 kd, .string (bs ac), .int .i64 fr, .int .i64 un, .int .i64 0, .int .i64 0, .int .i64 0, .string ⟨#[]⟩, .int .i64 0, .int .i64 0, .bool false, .int .i64 0, .int .i64 0, .int .i64 0, .slice none 0 0, .int .i64 0, .int .i64 0, .string ⟨#[]⟩, .int .i64 0, .int .i64 0, .bool false, .int .i64 0, .int .i64 0, .int .i64 0, .slice none 0 0, .int .i64 at0]) ∧ Hid (((need kKnown (ts.drop k1)).bind fun _ r7 => (wholeO r7).bind fun kn r8 => (optO kWhen (limited M0) (noWhen pl) r8).bind fun wh r9 => (optO kGive (limited M0) (noGive pl) r9).bind fun gi r10 => (finO full pl r10).bind fun _ r11 => Out.ok (Pa.Item.rule ⟨nm, ver, kdn, ac, fr, un, kn, wh, gi, pl⟩) r11 : Out Pa.Item) = O)) := ⟨_, rfl⟩
  have HK0 := Lib.hid hK0
  clear hK0
  refine wp_seq_cut K0 ?_ ?_
  rotate_left
  · intro J K hJ hK
    have HJ := Lib.hid hJ
    clear hJ
    have HO2 := HO.out
    unfold optO at HO2
    cases hw : isW kUntil (ts.drop k1) with
    | true =>
      rw [hw, if_pos rfl, List.tail_drop] at HO2
      replace HO := Lib.hid HO2
      have KB := Lib.hid (passes_any (k := k1) kUntil (by decide) v S1.out.rd)
      rw [hw, if_pos rfl] at KB
      clear HO2
      go_wp2_with fail
      refine KB.out.mono ?_
      rintro _ v2 ⟨rfl, hkp, hrd⟩
      have hsp := hkp.size
      have S2 := Lib.hid (S1.out.call hkp hrd)
      have D2 := Lib.hid (D1.out.call (by simp) hkp ND)
      clear hkp hrd KB S1 D1 
      go_wp2_with fail
      have KS := Lib.hid (whole_any v2 S2.out.rd)
      generalize wholeO (ts.drop (k1 + 1)) = oo at KS HO 
      refine KS.out.mono ?_
      cases oo with
      | er E q m =>
        rintro _ v3 ⟨k', rfl, hkp, hrd, hm⟩
        have SE := Lib.hid (S2.out.call hkp hrd)
        go_wp2_with fail
        exact bodyPost_panic rfl (PostD.er HO.out.symm rfl hm SE.out)
      | ok un r =>
        rintro _ v3 ⟨_, k2, rfl, rfl, hkp, hrd, rfl⟩
        have S3 := Lib.hid (S2.out.call hkp hrd)
        have D3 := Lib.hid (D2.out.call (by simp) hkp ND)
        have hsz_v3 := hkp.size
        have HO2 := HO.out
        rw [bind_ok] at HO2
        replace HO := Lib.hid HO2
        clear HO2 hkp hrd KS
        obtain ⟨c5, f5⟩ := D3.out 5 _ rfl
        go_wp2_with fail
        have S4 := Lib.hid (S3.out.other (by omega) 5 (.int .i64 un))
        have D4 := Lib.hid (D3.out.set 5 (.int .i64 un))
        simp only [List.set_cons_zero, List.set_cons_succ] at D4
        have hsz_w : (v3.setCell ⟨bq, 5, none⟩ (.int .i64 un)).heap.size = v3.heap.size := by simp [World.setCell]
        refine Handed.intro 0 (by decide) (HJ.out 0 _ _ ?_)
        rw [HK0.out]
        exact ⟨bq, k2, nm, ver, ac, fr, un, by constructor, hbq, by omega, S4, D4, HO⟩
    | false =>
      rw [hw, if_neg (by simp), bind_ok] at HO2
      replace HO := Lib.hid HO2
      have KB := Lib.hid (passes_any (k := k1) kUntil (by decide) v S1.out.rd)
      rw [hw, if_neg (by simp)] at KB
      clear HO2
      go_wp2_with fail
      refine KB.out.mono ?_
      rintro _ v2 ⟨rfl, hkp, hrd⟩
      have hsp := hkp.size
      have S2 := Lib.hid (S1.out.call hkp hrd)
      have D2 := Lib.hid (D1.out.call (by simp) hkp ND)
      clear hkp hrd KB S1 D1 
      go_wp2_with fail
      refine Handed.intro 0 (by decide) (HJ.out 0 _ _ ?_)
      rw [HK0.out]
      exact ⟨bq, k1, nm, ver, ac, fr, 36525, by constructor, hbq, by omega, S2, D2, HO⟩
  rw [HK0.out]
  clear HK0
  rintro a v ⟨bq, k1, nm, ver, ac, fr, un, ha, hbq, hbv, S1, D1, HO⟩
  cases ha
  have ND : bq ≠ b := by omega
  obtain ⟨K0, hK0⟩ : ∃ K0 : Act → World → Prop, K0 = (fun a V => ∃ (bq k1 : Nat) (nm : List UInt8) (ver : Int) (ac : List UInt8) (fr : Int) (un : Int), IsAct b cb bq at0 kd a ∧ w.heap.size ≤ bq ∧ bq < V.heap.size ∧ Hid (Sx w V b p cap qb ts En mb k1) ∧ Hid (BoxL V bq [.string (bs nm), .int .i64 ver, .int .i64 kd, .string (bs ac), .int .i64 fr, .int .i64 un, .int .i64 0, .int .i64 0, .int .i64 0, .string ⟨#[]⟩, .int .i64 0, .int .i64 0, .bool false, .int .i64 0, .int .i64 0, .int .i64 0, .slice none 0 0, .int .i64 0, .int .i64 0, .string ⟨#[]⟩, .int .i64 0, .int .i64 0, .bool false, .int .i64 0, .int .i64 0, .int .i64 0, .slice none 0 0, .int .i64 at0]) ∧ Hid (((wholeO (ts.drop k1)).bind fun kn r8 => (optO kWhen (limited M0) (noWhen pl) r8).bind fun wh r9 => (optO kGive (limited M0) (noGive pl) r9).bind fun gi r10 => (finO full pl r10).bind fun _ r11 => Out.ok (Pa.Item.rule ⟨nm, ver, kdn, ac, fr, un, kn, wh, gi, pl⟩) r11 : Out Pa.Item) = O)) := ⟨_, rfl⟩
  have HK0 := Lib.hid hK0
  clear hK0
  refine wp_seq_cut K0 ?_ ?_
  rotate_left
  · intro J K hJ hK
    have HJ := Lib.hid hJ
    clear hJ
    go_wp2_with fail
    have KS := Lib.hid (need_any kKnown (by decide) v S1.out.rd)
    generalize need kKnown (ts.drop k1) = oo at KS HO 
    refine KS.out.mono ?_
    cases oo with
    | er E q m =>
      rintro _ v3 ⟨k', rfl, hkp, hrd, hm⟩
      have SE := Lib.hid (S1.out.call hkp hrd)
      go_wp2_with fail
      exact bodyPost_panic rfl (PostD.er HO.out.symm rfl hm SE.out)
    | ok u0 r =>
      rintro _ v3 ⟨_, k2, rfl, rfl, hkp, hrd, rfl⟩
      have S3 := Lib.hid (S1.out.call hkp hrd)
      have D3 := Lib.hid (D1.out.call (by simp) hkp ND)
      have hsz_v3 := hkp.size
      have HO2 := HO.out
      rw [bind_ok] at HO2
      replace HO := Lib.hid HO2
      clear HO2 hkp hrd KS
      go_wp2_with fail
      refine Handed.intro 0 (by decide) (HJ.out 0 _ _ ?_)
      rw [HK0.out]
      exact ⟨bq, k2, nm, ver, ac, fr, un, by constructor, hbq, by omega, S3, D3, HO⟩
  rw [HK0.out]
  clear HK0
  rintro a v ⟨bq, k1, nm, ver, ac, fr, un, ha, hbq, hbv, S1, D1, HO⟩
  cases ha
  have ND : bq ≠ b := by omega
  obtain ⟨K0, hK0⟩ : ∃ K0 : Act → World → Prop, K0 = (fun a V => ∃ (bq k1 : Nat) (nm : List UInt8) (ver : Int) (ac : List UInt8) (fr : Int) (un : Int) (kn : Int), IsAct b cb bq at0 kd a ∧ w.heap.size ≤ bq ∧ bq < V.heap.size ∧ Hid (Sx w V b p cap qb ts En mb k1) ∧ Hid (BoxL V bq [.string (bs nm), .int .i64 ver, .int .i64 kd, .string (bs ac), .int .i64 fr, .int .i64 un, .int .i64 kn, .int .i64 0, .int .i64 0, .string ⟨#[]⟩, .int .i64 0, .int .i64 0, .bool false, .int .i64 0, .int .i64 0, .int .i64 0, .slice none 0 0, .int .i64 0, .int .i64 0, .string ⟨#[]⟩, .int .i64 0, .int .i64 0, .bool false, .int .i64 0, .int .i64 0, .int .i64 0, .slice none 0 0, .int .i64 at0]) ∧ Hid (((optO kWhen (limited M0) (noWhen pl) (ts.drop k1)).bind fun wh r9 => (optO kGive (limited M0) (noGive pl) r9).bind fun gi r10 => (finO full pl r10).bind fun _ r11 => Out.ok (Pa.Item.rule ⟨nm, ver, kdn, ac, fr, un, kn, wh, gi, pl⟩) r11 : Out Pa.Item) = O)) := ⟨_, rfl⟩
  have HK0 := Lib.hid hK0
  clear hK0
  refine wp_seq_cut K0 ?_ ?_
  rotate_left
  · intro J K hJ hK
    have HJ := Lib.hid hJ
    clear hJ
    go_wp2_with fail
    have KS := Lib.hid (whole_any v S1.out.rd)
    generalize wholeO (ts.drop k1) = oo at KS HO 
    refine KS.out.mono ?_
    cases oo with
    | er E q m =>
      rintro _ v3 ⟨k', rfl, hkp, hrd, hm⟩
      have SE := Lib.hid (S1.out.call hkp hrd)
      go_wp2_with fail
      exact bodyPost_panic rfl (PostD.er HO.out.symm rfl hm SE.out)
    | ok kn r =>
      rintro _ v3 ⟨_, k2, rfl, rfl, hkp, hrd, rfl⟩
      have S3 := Lib.hid (S1.out.call hkp hrd)
      have D3 := Lib.hid (D1.out.call (by simp) hkp ND)
      have hsz_v3 := hkp.size
      have HO2 := HO.out
      rw [bind_ok] at HO2
      replace HO := Lib.hid HO2
      clear HO2 hkp hrd KS
      obtain ⟨c6, f6⟩ := D3.out 6 _ rfl
      go_wp2_with fail
      have S4 := Lib.hid (S3.out.other (by omega) 6 (.int .i64 kn))
      have D4 := Lib.hid (D3.out.set 6 (.int .i64 kn))
      simp only [List.set_cons_zero, List.set_cons_succ] at D4
      have hsz_w : (v3.setCell ⟨bq, 6, none⟩ (.int .i64 kn)).heap.size = v3.heap.size := by simp [World.setCell]
      refine Handed.intro 0 (by decide) (HJ.out 0 _ _ ?_)
      rw [HK0.out]
      exact ⟨bq, k2, nm, ver, ac, fr, un, kn, by constructor, hbq, by omega, S4, D4, HO⟩
  rw [HK0.out]
  clear HK0
  rintro a v ⟨bq, k1, nm, ver, ac, fr, un, kn, ha, hbq, hbv, S1, D1, HO⟩
  cases ha
  have ND : bq ≠ b := by omega
  obtain ⟨K0, hK0⟩ : ∃ K0 : Act → World → Prop, K0 = (fun a V => ∃ (bq k1 : Nat) (nm : List UInt8) (ver : Int) (ac : List UInt8) (fr : Int) (un : Int) (kn : Int), IsAct b cb bq at0 kd a ∧ w.heap.size ≤ bq ∧ bq < V.heap.size ∧ Hid (Sx w V b p cap qb ts En mb k1) ∧ Hid (BoxL V bq [.string (bs nm), .int .i64 ver, .int .i64 kd, .string (bs ac), .int .i64 fr, .int .i64 un, .int .i64 kn, .int .i64 17, .int .i64 at0, .string ⟨#[]⟩, .int .i64 0, .int .i64 0, .bool false, .int .i64 0, .int .i64 0, .int .i64 0, .slice none 0 0, .int .i64 0, .int .i64 0, .string ⟨#[]⟩, .int .i64 0, .int .i64 0, .bool false, .int .i64 0, .int .i64 0, .int .i64 0, .slice none 0 0, .int .i64 at0]) ∧ Hid (((optO kWhen (limited M0) (noWhen pl) (ts.drop k1)).bind fun wh r9 => (optO kGive (limited M0) (noGive pl) r9).bind fun gi r10 => (finO full pl r10).bind fun _ r11 => Out.ok (Pa.Item.rule ⟨nm, ver, kdn, ac, fr, un, kn, wh, gi, pl⟩) r11 : Out Pa.Item) = O)) := ⟨_, rfl⟩
  have HK0 := Lib.hid hK0
  clear hK0
  refine wp_seq_cut K0 ?_ ?_
  rotate_left
  · intro J K hJ hK
    have HJ := Lib.hid hJ
    clear hJ
    obtain ⟨c7, f7⟩ := D1.out 7 _ rfl
    obtain ⟨c8, f8⟩ := D1.out 8 _ rfl
    obtain ⟨c9, f9⟩ := D1.out 9 _ rfl
    obtain ⟨c10, f10⟩ := D1.out 10 _ rfl
    obtain ⟨c11, f11⟩ := D1.out 11 _ rfl
    obtain ⟨c12, f12⟩ := D1.out 12 _ rfl
    obtain ⟨c13, f13⟩ := D1.out 13 _ rfl
    obtain ⟨c14, f14⟩ := D1.out 14 _ rfl
    obtain ⟨c15, f15⟩ := D1.out 15 _ rfl
    obtain ⟨c16, f16⟩ := D1.out 16 _ rfl
    go_wp2_with fail
    have S4 := Lib.hid ((((((((((S1.out.other (by omega) 7 (.int .i64 17)).other (by omega) 8 (.int .i64 at0)).other (by omega) 9 (.string ⟨#[]⟩)).other (by omega) 10 (.int .i64 0)).other (by omega) 11 (.int .i64 0)).other (by omega) 12 (.bool false)).other (by omega) 13 (.int .i64 0)).other (by omega) 14 (.int .i64 0)).other (by omega) 15 (.int .i64 0)).other (by omega) 16 (.slice none 0 0))
    have D4 := Lib.hid ((((((((((D1.out.set 7 (.int .i64 17)).set 8 (.int .i64 at0)).set 9 (.string ⟨#[]⟩)).set 10 (.int .i64 0)).set 11 (.int .i64 0)).set 12 (.bool false)).set 13 (.int .i64 0)).set 14 (.int .i64 0)).set 15 (.int .i64 0)).set 16 (.slice none 0 0))
    simp only [List.set_cons_zero, List.set_cons_succ] at D4
    have hsz_w : ((((((((((v.setCell ⟨bq, 7, none⟩ (.int .i64 17)).setCell ⟨bq, 8, none⟩ (.int .i64 at0)).setCell ⟨bq, 9, none⟩ (.string ⟨#[]⟩)).setCell ⟨bq, 10, none⟩ (.int .i64 0)).setCell ⟨bq, 11, none⟩ (.int .i64 0)).setCell ⟨bq, 12, none⟩ (.bool false)).setCell ⟨bq, 13, none⟩ (.int .i64 0)).setCell ⟨bq, 14, none⟩ (.int .i64 0)).setCell ⟨bq, 15, none⟩ (.int .i64 0)).setCell ⟨bq, 16, none⟩ (.slice none 0 0)).heap.size = v.heap.size := by simp [World.setCell]
    refine Handed.intro 0 (by decide) (HJ.out 0 _ _ ?_)
    rw [HK0.out]
    exact ⟨bq, k1, nm, ver, ac, fr, un, kn, by constructor, hbq, by omega, S4, D4, HO⟩
  rw [HK0.out]
  clear HK0
  rintro a v ⟨bq, k1, nm, ver, ac, fr, un, kn, ha, hbq, hbv, S1, D1, HO⟩
  cases ha
  have ND : bq ≠ b := by omega
  obtain ⟨K0, hK0⟩ : ∃ K0 : Act → World → Prop, K0 = (fun a V => ∃ (bq k1 : Nat) (nm : List UInt8) (ver : Int) (ac : List UInt8) (fr : Int) (un : Int) (kn : Int) (wh : Tree) (x : NV), IsAct b cb bq at0 kd a ∧ w.heap.size ≤ bq ∧ bq < V.heap.size ∧ Hid (Sx w V b p cap qb ts En mb k1) ∧ Hid (BoxL V bq [.string (bs nm), .int .i64 ver, .int .i64 kd, .string (bs ac), .int .i64 fr, .int .i64 un, .int .i64 kn, .int .i64 x.o, .int .i64 x.a, .string x.s, .int .i64 x.n, .int .i64 x.d, .bool x.f, .int .i64 x.m, .int .i64 x.r, .int .i64 x.y, .slice x.q x.k x.c, .int .i64 0, .int .i64 0, .string ⟨#[]⟩, .int .i64 0, .int .i64 0, .bool false, .int .i64 0, .int .i64 0, .int .i64 0, .slice none 0 0, .int .i64 at0]) ∧ Hid (NodeA V (fun j => bq < j) (offs ts En) wh x) ∧ Hid (((optO kGive (limited M0) (noGive pl) (ts.drop k1)).bind fun gi r10 => (finO full pl r10).bind fun _ r11 => Out.ok (Pa.Item.rule ⟨nm, ver, kdn, ac, fr, un, kn, wh, gi, pl⟩) r11 : Out Pa.Item) = O)) := ⟨_, rfl⟩
  have HK0 := Lib.hid hK0
  clear hK0
  refine wp_seq_cut K0 ?_ ?_
  rotate_left
  · intro J K hJ hK
    have HJ := Lib.hid hJ
    clear hJ
    have HO2 := HO.out
    unfold optO at HO2
    cases hw : isW kWhen (ts.drop k1) with
    | true =>
      rw [hw, if_pos rfl, List.tail_drop] at HO2
      replace HO := Lib.hid HO2
      have KB := Lib.hid (passes_any (k := k1) kWhen (by decide) v S1.out.rd)
      rw [hw, if_pos rfl] at KB
      clear HO2
      go_wp2_with fail
      refine KB.out.mono ?_
      rintro _ v2 ⟨rfl, hkp, hrd⟩
      have hsp := hkp.size
      have S2 := Lib.hid (S1.out.call hkp hrd)
      have D2 := Lib.hid (D1.out.call (by simp) hkp ND)
      clear hkp hrd KB S1 D1 
      go_wp2_with fail
      have KS := Lib.hid (limited_any (k1 + 1) v2 S2.out.rd)
      generalize limited M0 (ts.drop (k1 + 1)) = oo at KS HO 
      refine KS.out.mono ?_
      cases oo with
      | er E q m =>
        rintro _ v3 ⟨k', rfl, hkp, hrd, hm⟩
        have SE := Lib.hid (S2.out.call hkp hrd)
        go_wp2_with fail
        exact bodyPost_panic rfl (PostD.er HO.out.symm rfl hm SE.out)
      | ok wh r =>
        rintro _ v3 ⟨_, k2, rfl, ⟨⟨xo, xa, xs, xn, xd, xf, xm, xr, xy, xq, xk, xc⟩, rfl, hx⟩, hkp, hrd, rfl⟩
        have S3 := Lib.hid (S2.out.call hkp hrd)
        have D3 := Lib.hid (D2.out.call (by simp) hkp ND)
        have hsz_v3 := hkp.size
        have HO2 := HO.out
        rw [bind_ok] at HO2
        replace HO := Lib.hid HO2
        clear HO2 hrd KS
        have HX : Hid (NodeA v3 (fun j => bq < j) (offs ts En) wh ⟨xo, xa, xs, xn, xd, xf, xm, xr, xy, xq, xk, xc⟩) := NodeA.keep (Nat.le_refl _) (fun _ _ _ => rfl) (fun j (hj : v2.heap.size ≤ j) _ => (by show bq < j; omega)) _ _ hx
        clear hx
        unfold nv
        obtain ⟨c7, f7⟩ := D3.out 7 _ rfl
        obtain ⟨c8, f8⟩ := D3.out 8 _ rfl
        obtain ⟨c9, f9⟩ := D3.out 9 _ rfl
        obtain ⟨c10, f10⟩ := D3.out 10 _ rfl
        obtain ⟨c11, f11⟩ := D3.out 11 _ rfl
        obtain ⟨c12, f12⟩ := D3.out 12 _ rfl
        obtain ⟨c13, f13⟩ := D3.out 13 _ rfl
        obtain ⟨c14, f14⟩ := D3.out 14 _ rfl
        obtain ⟨c15, f15⟩ := D3.out 15 _ rfl
        obtain ⟨c16, f16⟩ := D3.out 16 _ rfl
        go_wp2_with fail
        have S4 := Lib.hid ((((((((((S3.out.other (by omega) 7 (.int .i64 xo)).other (by omega) 8 (.int .i64 xa)).other (by omega) 9 (.string xs)).other (by omega) 10 (.int .i64 xn)).other (by omega) 11 (.int .i64 xd)).other (by omega) 12 (.bool xf)).other (by omega) 13 (.int .i64 xm)).other (by omega) 14 (.int .i64 xr)).other (by omega) 15 (.int .i64 xy)).other (by omega) 16 (.slice xq xk xc))
        have D4 := Lib.hid ((((((((((D3.out.set 7 (.int .i64 xo)).set 8 (.int .i64 xa)).set 9 (.string xs)).set 10 (.int .i64 xn)).set 11 (.int .i64 xd)).set 12 (.bool xf)).set 13 (.int .i64 xm)).set 14 (.int .i64 xr)).set 15 (.int .i64 xy)).set 16 (.slice xq xk xc))
        simp only [List.set_cons_zero, List.set_cons_succ] at D4
        have hsz_w : ((((((((((v3.setCell ⟨bq, 7, none⟩ (.int .i64 xo)).setCell ⟨bq, 8, none⟩ (.int .i64 xa)).setCell ⟨bq, 9, none⟩ (.string xs)).setCell ⟨bq, 10, none⟩ (.int .i64 xn)).setCell ⟨bq, 11, none⟩ (.int .i64 xd)).setCell ⟨bq, 12, none⟩ (.bool xf)).setCell ⟨bq, 13, none⟩ (.int .i64 xm)).setCell ⟨bq, 14, none⟩ (.int .i64 xr)).setCell ⟨bq, 15, none⟩ (.int .i64 xy)).setCell ⟨bq, 16, none⟩ (.slice xq xk xc)).heap.size = v3.heap.size := by simp [World.setCell]
        have HX2 := Lib.hid (NodeA.set (NodeA.set (NodeA.set (NodeA.set (NodeA.set (NodeA.set (NodeA.set (NodeA.set (NodeA.set (NodeA.set HX.out (by show ¬ bq < bq; omega) 7 (.int .i64 xo)) (by show ¬ bq < bq; omega) 8 (.int .i64 xa)) (by show ¬ bq < bq; omega) 9 (.string xs)) (by show ¬ bq < bq; omega) 10 (.int .i64 xn)) (by show ¬ bq < bq; omega) 11 (.int .i64 xd)) (by show ¬ bq < bq; omega) 12 (.bool xf)) (by show ¬ bq < bq; omega) 13 (.int .i64 xm)) (by show ¬ bq < bq; omega) 14 (.int .i64 xr)) (by show ¬ bq < bq; omega) 15 (.int .i64 xy)) (by show ¬ bq < bq; omega) 16 (.slice xq xk xc))
        refine Handed.intro 0 (by decide) (HJ.out 0 _ _ ?_)
        rw [HK0.out]
        exact ⟨bq, k2, nm, ver, ac, fr, un, kn, wh, ⟨xo, xa, xs, xn, xd, xf, xm, xr, xy, xq, xk, xc⟩, by constructor, hbq, by omega, S4, D4, HX2, HO⟩
    | false =>
      rw [hw, if_neg (by simp), bind_ok] at HO2
      replace HO := Lib.hid HO2
      have KB := Lib.hid (passes_any (k := k1) kWhen (by decide) v S1.out.rd)
      rw [hw, if_neg (by simp)] at KB
      clear HO2
      go_wp2_with fail
      refine KB.out.mono ?_
      rintro _ v2 ⟨rfl, hkp, hrd⟩
      have hsp := hkp.size
      have S2 := Lib.hid (S1.out.call hkp hrd)
      have D2 := Lib.hid (D1.out.call (by simp) hkp ND)
      clear hkp hrd KB S1 D1 
      go_wp2_with fail
      refine Handed.intro 0 (by decide) (HJ.out 0 _ _ ?_)
      rw [HK0.out]
      exact ⟨bq, k1, nm, ver, ac, fr, un, kn, noWhen pl, ⟨17, at0, ⟨#[]⟩, 0, 0, false, 0, 0, 0, none, 0, 0⟩, by constructor, hbq, by omega, S2, D2, by rw [HAT.out]; exact Lib.hid (leaf_when _ _ _ _), HO⟩
  rw [HK0.out]
  clear HK0
  rintro a v ⟨bq, k1, nm, ver, ac, fr, un, kn, wh, x, ha, hbq, hbv, S1, D1, N0, HO⟩
  cases ha
  have ND : bq ≠ b := by omega
  obtain ⟨K0, hK0⟩ : ∃ K0 : Act → World → Prop, K0 = (fun a V => ∃ (bq k1 : Nat) (nm : List UInt8) (ver : Int) (ac : List UInt8) (fr : Int) (un : Int) (kn : Int) (wh : Tree) (x : NV), IsAct b cb bq at0 kd a ∧ w.heap.size ≤ bq ∧ bq < V.heap.size ∧ Hid (Sx w V b p cap qb ts En mb k1) ∧ Hid (BoxL V bq [.string (bs nm), .int .i64 ver, .int .i64 kd, .string (bs ac), .int .i64 fr, .int .i64 un, .int .i64 kn, .int .i64 x.o, .int .i64 x.a, .string x.s, .int .i64 x.n, .int .i64 x.d, .bool x.f, .int .i64 x.m, .int .i64 x.r, .int .i64 x.y, .slice x.q x.k x.c, .int .i64 1, .int .i64 at0, .string ⟨#[]⟩, .int .i64 0, .int .i64 1, .bool false, .int .i64 0, .int .i64 0, .int .i64 0, .slice none 0 0, .int .i64 at0]) ∧ Hid (NodeA V (fun j => bq < j) (offs ts En) wh x) ∧ Hid (((optO kGive (limited M0) (noGive pl) (ts.drop k1)).bind fun gi r10 => (finO full pl r10).bind fun _ r11 => Out.ok (Pa.Item.rule ⟨nm, ver, kdn, ac, fr, un, kn, wh, gi, pl⟩) r11 : Out Pa.Item) = O)) := ⟨_, rfl⟩
  have HK0 := Lib.hid hK0
  clear hK0
  refine wp_seq_cut K0 ?_ ?_
  rotate_left
  · intro J K hJ hK
    have HJ := Lib.hid hJ
    clear hJ
    obtain ⟨c17, f17⟩ := D1.out 17 _ rfl
    obtain ⟨c18, f18⟩ := D1.out 18 _ rfl
    obtain ⟨c19, f19⟩ := D1.out 19 _ rfl
    obtain ⟨c20, f20⟩ := D1.out 20 _ rfl
    obtain ⟨c21, f21⟩ := D1.out 21 _ rfl
    obtain ⟨c22, f22⟩ := D1.out 22 _ rfl
    obtain ⟨c23, f23⟩ := D1.out 23 _ rfl
    obtain ⟨c24, f24⟩ := D1.out 24 _ rfl
    obtain ⟨c25, f25⟩ := D1.out 25 _ rfl
    obtain ⟨c26, f26⟩ := D1.out 26 _ rfl
    go_wp2_with fail
    have S4 := Lib.hid ((((((((((S1.out.other (by omega) 17 (.int .i64 1)).other (by omega) 18 (.int .i64 at0)).other (by omega) 19 (.string ⟨#[]⟩)).other (by omega) 20 (.int .i64 0)).other (by omega) 21 (.int .i64 1)).other (by omega) 22 (.bool false)).other (by omega) 23 (.int .i64 0)).other (by omega) 24 (.int .i64 0)).other (by omega) 25 (.int .i64 0)).other (by omega) 26 (.slice none 0 0))
    have D4 := Lib.hid ((((((((((D1.out.set 17 (.int .i64 1)).set 18 (.int .i64 at0)).set 19 (.string ⟨#[]⟩)).set 20 (.int .i64 0)).set 21 (.int .i64 1)).set 22 (.bool false)).set 23 (.int .i64 0)).set 24 (.int .i64 0)).set 25 (.int .i64 0)).set 26 (.slice none 0 0))
    simp only [List.set_cons_zero, List.set_cons_succ] at D4
    have hsz_w : ((((((((((v.setCell ⟨bq, 17, none⟩ (.int .i64 1)).setCell ⟨bq, 18, none⟩ (.int .i64 at0)).setCell ⟨bq, 19, none⟩ (.string ⟨#[]⟩)).setCell ⟨bq, 20, none⟩ (.int .i64 0)).setCell ⟨bq, 21, none⟩ (.int .i64 1)).setCell ⟨bq, 22, none⟩ (.bool false)).setCell ⟨bq, 23, none⟩ (.int .i64 0)).setCell ⟨bq, 24, none⟩ (.int .i64 0)).setCell ⟨bq, 25, none⟩ (.int .i64 0)).setCell ⟨bq, 26, none⟩ (.slice none 0 0)).heap.size = v.heap.size := by simp [World.setCell]
    have N0z := Lib.hid (NodeA.set (NodeA.set (NodeA.set (NodeA.set (NodeA.set (NodeA.set (NodeA.set (NodeA.set (NodeA.set (NodeA.set N0.out (by show ¬ bq < bq; omega) 17 (.int .i64 1)) (by show ¬ bq < bq; omega) 18 (.int .i64 at0)) (by show ¬ bq < bq; omega) 19 (.string ⟨#[]⟩)) (by show ¬ bq < bq; omega) 20 (.int .i64 0)) (by show ¬ bq < bq; omega) 21 (.int .i64 1)) (by show ¬ bq < bq; omega) 22 (.bool false)) (by show ¬ bq < bq; omega) 23 (.int .i64 0)) (by show ¬ bq < bq; omega) 24 (.int .i64 0)) (by show ¬ bq < bq; omega) 25 (.int .i64 0)) (by show ¬ bq < bq; omega) 26 (.slice none 0 0))
    refine Handed.intro 0 (by decide) (HJ.out 0 _ _ ?_)
    rw [HK0.out]
    exact ⟨bq, k1, nm, ver, ac, fr, un, kn, wh, x, by constructor, hbq, by omega, S4, D4, N0z, HO⟩
  rw [HK0.out]
  clear HK0
  rintro a v ⟨bq, k1, nm, ver, ac, fr, un, kn, wh, x, ha, hbq, hbv, S1, D1, N0, HO⟩
  cases ha
  have ND : bq ≠ b := by omega
  obtain ⟨K0, hK0⟩ : ∃ K0 : Act → World → Prop, K0 = (fun a V => ∃ (bq k1 : Nat) (nm : List UInt8) (ver : Int) (ac : List UInt8) (fr : Int) (un : Int) (kn : Int) (wh : Tree) (x : NV) (gi : Tree) (y : NV), IsAct b cb bq at0 kd a ∧ w.heap.size ≤ bq ∧ bq < V.heap.size ∧ Hid (Sx w V b p cap qb ts En mb k1) ∧ Hid (BoxL V bq [.string (bs nm), .int .i64 ver, .int .i64 kd, .string (bs ac), .int .i64 fr, .int .i64 un, .int .i64 kn, .int .i64 x.o, .int .i64 x.a, .string x.s, .int .i64 x.n, .int .i64 x.d, .bool x.f, .int .i64 x.m, .int .i64 x.r, .int .i64 x.y, .slice x.q x.k x.c, .int .i64 y.o, .int .i64 y.a, .string y.s, .int .i64 y.n, .int .i64 y.d, .bool y.f, .int .i64 y.m, .int .i64 y.r, .int .i64 y.y, .slice y.q y.k y.c, .int .i64 at0]) ∧ Hid (NodeA V (fun j => bq < j) (offs ts En) wh x) ∧ Hid (NodeA V (fun j => bq < j) (offs ts En) gi y) ∧ Hid (((finO full pl (ts.drop k1)).bind fun _ r11 => Out.ok (Pa.Item.rule ⟨nm, ver, kdn, ac, fr, un, kn, wh, gi, pl⟩) r11 : Out Pa.Item) = O)) := ⟨_, rfl⟩
  have HK0 := Lib.hid hK0
  clear hK0
  refine wp_seq_cut K0 ?_ ?_
  rotate_left
  · intro J K hJ hK
    have HJ := Lib.hid hJ
    clear hJ
    have HO2 := HO.out
    unfold optO at HO2
    cases hw : isW kGive (ts.drop k1) with
    | true =>
      rw [hw, if_pos rfl, List.tail_drop] at HO2
      replace HO := Lib.hid HO2
      have KB := Lib.hid (passes_any (k := k1) kGive (by decide) v S1.out.rd)
      rw [hw, if_pos rfl] at KB
      clear HO2
      go_wp2_with fail
      refine KB.out.mono ?_
      rintro _ v2 ⟨rfl, hkp, hrd⟩
      have hsp := hkp.size
      have S2 := Lib.hid (S1.out.call hkp hrd)
      have D2 := Lib.hid (D1.out.call (by simp) hkp ND)
      have N0x := Lib.hid (NodeA.keep hkp.size (fun j (hj : bq < j) hj2 => hkp.block j hj2 (by omega)) (fun j hj _ => hj) _ _ N0.out)
      clear hkp hrd KB S1 D1 N0
      go_wp2_with fail
      have KS := Lib.hid (limited_any (k1 + 1) v2 S2.out.rd)
      generalize limited M0 (ts.drop (k1 + 1)) = oo at KS HO 
      refine KS.out.mono ?_
      cases oo with
      | er E q m =>
        rintro _ v3 ⟨k', rfl, hkp, hrd, hm⟩
        have SE := Lib.hid (S2.out.call hkp hrd)
        go_wp2_with fail
        exact bodyPost_panic rfl (PostD.er HO.out.symm rfl hm SE.out)
      | ok gi r =>
        rintro _ v3 ⟨_, k2, rfl, ⟨⟨yo, ya, ys, yn, yd, yf, ym, yr, yy, yq, yk, yc⟩, rfl, hx⟩, hkp, hrd, rfl⟩
        have S3 := Lib.hid (S2.out.call hkp hrd)
        have D3 := Lib.hid (D2.out.call (by simp) hkp ND)
        have N0y := Lib.hid (NodeA.keep hkp.size (fun j (hj : bq < j) hj2 => hkp.block j hj2 (by omega)) (fun j hj _ => hj) _ _ N0x.out)
        have hsz_v3 := hkp.size
        have HO2 := HO.out
        rw [bind_ok] at HO2
        replace HO := Lib.hid HO2
        clear HO2 hkp hrd KS
        have HY : Hid (NodeA v3 (fun j => bq < j) (offs ts En) gi ⟨yo, ya, ys, yn, yd, yf, ym, yr, yy, yq, yk, yc⟩) := NodeA.keep (Nat.le_refl _) (fun _ _ _ => rfl) (fun j (hj : v2.heap.size ≤ j) _ => (by show bq < j; omega)) _ _ hx
        clear hx
        unfold nv
        obtain ⟨c17, f17⟩ := D3.out 17 _ rfl
        obtain ⟨c18, f18⟩ := D3.out 18 _ rfl
        obtain ⟨c19, f19⟩ := D3.out 19 _ rfl
        obtain ⟨c20, f20⟩ := D3.out 20 _ rfl
        obtain ⟨c21, f21⟩ := D3.out 21 _ rfl
        obtain ⟨c22, f22⟩ := D3.out 22 _ rfl
        obtain ⟨c23, f23⟩ := D3.out 23 _ rfl
        obtain ⟨c24, f24⟩ := D3.out 24 _ rfl
        obtain ⟨c25, f25⟩ := D3.out 25 _ rfl
        obtain ⟨c26, f26⟩ := D3.out 26 _ rfl
        go_wp2_with fail
        have S4 := Lib.hid ((((((((((S3.out.other (by omega) 17 (.int .i64 yo)).other (by omega) 18 (.int .i64 ya)).other (by omega) 19 (.string ys)).other (by omega) 20 (.int .i64 yn)).other (by omega) 21 (.int .i64 yd)).other (by omega) 22 (.bool yf)).other (by omega) 23 (.int .i64 ym)).other (by omega) 24 (.int .i64 yr)).other (by omega) 25 (.int .i64 yy)).other (by omega) 26 (.slice yq yk yc))
        have D4 := Lib.hid ((((((((((D3.out.set 17 (.int .i64 yo)).set 18 (.int .i64 ya)).set 19 (.string ys)).set 20 (.int .i64 yn)).set 21 (.int .i64 yd)).set 22 (.bool yf)).set 23 (.int .i64 ym)).set 24 (.int .i64 yr)).set 25 (.int .i64 yy)).set 26 (.slice yq yk yc))
        simp only [List.set_cons_zero, List.set_cons_succ] at D4
        have hsz_w : ((((((((((v3.setCell ⟨bq, 17, none⟩ (.int .i64 yo)).setCell ⟨bq, 18, none⟩ (.int .i64 ya)).setCell ⟨bq, 19, none⟩ (.string ys)).setCell ⟨bq, 20, none⟩ (.int .i64 yn)).setCell ⟨bq, 21, none⟩ (.int .i64 yd)).setCell ⟨bq, 22, none⟩ (.bool yf)).setCell ⟨bq, 23, none⟩ (.int .i64 ym)).setCell ⟨bq, 24, none⟩ (.int .i64 yr)).setCell ⟨bq, 25, none⟩ (.int .i64 yy)).setCell ⟨bq, 26, none⟩ (.slice yq yk yc)).heap.size = v3.heap.size := by simp [World.setCell]
        have N0w := Lib.hid (NodeA.set (NodeA.set (NodeA.set (NodeA.set (NodeA.set (NodeA.set (NodeA.set (NodeA.set (NodeA.set (NodeA.set N0y.out (by show ¬ bq < bq; omega) 17 (.int .i64 yo)) (by show ¬ bq < bq; omega) 18 (.int .i64 ya)) (by show ¬ bq < bq; omega) 19 (.string ys)) (by show ¬ bq < bq; omega) 20 (.int .i64 yn)) (by show ¬ bq < bq; omega) 21 (.int .i64 yd)) (by show ¬ bq < bq; omega) 22 (.bool yf)) (by show ¬ bq < bq; omega) 23 (.int .i64 ym)) (by show ¬ bq < bq; omega) 24 (.int .i64 yr)) (by show ¬ bq < bq; omega) 25 (.int .i64 yy)) (by show ¬ bq < bq; omega) 26 (.slice yq yk yc))
        have HY2 := Lib.hid (NodeA.set (NodeA.set (NodeA.set (NodeA.set (NodeA.set (NodeA.set (NodeA.set (NodeA.set (NodeA.set (NodeA.set HY.out (by show ¬ bq < bq; omega) 17 (.int .i64 yo)) (by show ¬ bq < bq; omega) 18 (.int .i64 ya)) (by show ¬ bq < bq; omega) 19 (.string ys)) (by show ¬ bq < bq; omega) 20 (.int .i64 yn)) (by show ¬ bq < bq; omega) 21 (.int .i64 yd)) (by show ¬ bq < bq; omega) 22 (.bool yf)) (by show ¬ bq < bq; omega) 23 (.int .i64 ym)) (by show ¬ bq < bq; omega) 24 (.int .i64 yr)) (by show ¬ bq < bq; omega) 25 (.int .i64 yy)) (by show ¬ bq < bq; omega) 26 (.slice yq yk yc))
        refine Handed.intro 0 (by decide) (HJ.out 0 _ _ ?_)
        rw [HK0.out]
        exact ⟨bq, k2, nm, ver, ac, fr, un, kn, wh, x, gi, ⟨yo, ya, ys, yn, yd, yf, ym, yr, yy, yq, yk, yc⟩, by constructor, hbq, by omega, S4, D4, N0w, HY2, HO⟩
    | false =>
      rw [hw, if_neg (by simp), bind_ok] at HO2
      replace HO := Lib.hid HO2
      have KB := Lib.hid (passes_any (k := k1) kGive (by decide) v S1.out.rd)
      rw [hw, if_neg (by simp)] at KB
      clear HO2
      go_wp2_with fail
      refine KB.out.mono ?_
      rintro _ v2 ⟨rfl, hkp, hrd⟩
      have hsp := hkp.size
      have S2 := Lib.hid (S1.out.call hkp hrd)
      have D2 := Lib.hid (D1.out.call (by simp) hkp ND)
      have N0x := Lib.hid (NodeA.keep hkp.size (fun j (hj : bq < j) hj2 => hkp.block j hj2 (by omega)) (fun j hj _ => hj) _ _ N0.out)
      clear hkp hrd KB S1 D1 N0
      go_wp2_with fail
      refine Handed.intro 0 (by decide) (HJ.out 0 _ _ ?_)
      rw [HK0.out]
      exact ⟨bq, k1, nm, ver, ac, fr, un, kn, wh, x, noGive pl, ⟨1, at0, ⟨#[]⟩, 0, 1, false, 0, 0, 0, none, 0, 0⟩, by constructor, hbq, by omega, S2, D2, N0x, by rw [HAT.out]; exact Lib.hid (leaf_give _ _ _ _), HO⟩
  rw [HK0.out]
  clear HK0
  rintro a v ⟨bq, k1, nm, ver, ac, fr, un, kn, wh, x, gi, y, ha, hbq, hbv, S1, D1, N0, N1, HO⟩
  cases ha
  have ND : bq ≠ b := by omega
  have hcX := (HC.out.at2.heap (S1.out.kp.block cb hcl (by omega))).c1
  have KFN := Lib.hid (finish_any full pl v S1.out.rd)
  rw [← HAT.out] at KFN
  have hLe : ([] : List Value).length = 0 := rfl
  clear hLe
  go_wp2_with fail
  clear hcX
  have KS := Lib.hid (KFN.out)
  generalize finO full pl (ts.drop k1) = oo at KS HO 
  refine KS.out.mono ?_
  cases oo with
  | er E q m =>
    rintro _ v7 ⟨k', rfl, hkp, hrd, hm⟩
    have SE := Lib.hid (S1.out.call hkp hrd)
    go_wp2_with fail
    exact bodyPost_panic rfl (PostD.er HO.out.symm rfl hm SE.out)
  | ok u7 r =>
    rintro _ v7 ⟨_, k7, rfl, rfl, hkp, hrd, rfl⟩
    have S7 := Lib.hid (S1.out.call hkp hrd)
    have D7x := Lib.hid (D1.out.call (by simp) hkp ND)
    have N0y := Lib.hid (NodeA.keep hkp.size (fun j (hj : bq < j) hj2 => hkp.block j hj2 (by omega)) (fun j hj _ => hj) _ _ N0.out)
    have N1y := Lib.hid (NodeA.keep hkp.size (fun j (hj : bq < j) hj2 => hkp.block j hj2 (by omega)) (fun j hj _ => hj) _ _ N1.out)
    have hsz_v7 := hkp.size
    have HO2 := HO.out
    rw [bind_ok] at HO2
    replace HO := Lib.hid HO2
    clear HO2 hkp hrd KS
    clear S1 D1 N0 N1 KFN
    obtain ⟨LL, hLL⟩ : ∃ LL : List Value, LL = [.string (bs nm), .int .i64 ver, .int .i64 kd, .string (bs ac), .int .i64 fr, .int .i64 un, .int .i64 kn, .int .i64 x.o, .int .i64 x.a, .string x.s, .int .i64 x.n, .int .i64 x.d, .bool x.f, .int .i64 x.m, .int .i64 x.r, .int .i64 x.y, .slice x.q x.k x.c, .int .i64 y.o, .int .i64 y.a, .string y.s, .int .i64 y.n, .int .i64 y.d, .bool y.f, .int .i64 y.m, .int .i64 y.r, .int .i64 y.y, .slice y.q y.k y.c, .int .i64 at0] := ⟨_, rfl⟩
    have hLn : LL.length = 28 := by rw [hLL]; rfl
    have hL1 : ∀ u ∈ LL, u.oneCell' = true := by rw [hLL]; simp [Value.oneCell']
    have HRV : Hid (LL = rV (offs ts En) ⟨nm, ver, kdn, ac, fr, un, kn, wh, gi, pl⟩ x y) := by show _ = _; rw [hLL, HKD.out, HAT.out]; rfl
    have HBS : Hid (∀ W : World, (Instr.buildSlice 24 1 #[(0, .agg LL.toArray)]).run Tryz.prog W = .ok (.slice (some ⟨W.heap.size, 0, none⟩) 1 1) (W.alloc (.cells LL.toArray 63))) := by
      show ∀ W, _
      intro W
      rw [hLL]
      exact slice_rule _ _ _ _ _ _ _ _ _ _ _ _ _ _ _ _ _ _ _ _ _ _ _ _ _ _ _ _ W
    have D7 : Hid (BoxL v7 bq LL) := by show BoxL _ _ _; rw [hLL]; exact D7x.out
    clear D7x hLL
    have CV : Hid (Cx v7 base cb gx (offs ts En) ds rs vd (.slice q rs.length rc) ns) := HC.out.keep S7.out.kp.size (fun j hj hj2 => S7.out.kp.block j hj (by rcases hj2 with rfl | hj2 <;> omega))
    have hsv7 := S7.out.kp.size
    have NDc : bq ≠ cb := by omega
    go_wp2_with fail
    have hcU := (CV.out.at2).c1
    have NCB : cb ≠ v7.heap.size := by omega
    have hS : Hid (BoxL v7.drew bq LL) := D7
    refine wp_region_held (S := fun w' : World => Hid (BoxL w' bq LL)) mixed ?_
    change wpAnyH _ _ _ _ _ _ _ _ v7.drew
    refine tk0 (v := ?_) (by kernel_rfl) (by kernel_rfl) (by kernel_rfl) (fun _ _ _ h => h) (Or.inl ⟨by rfl, ?_⟩) hS ?_
    rotate_left
    · (intro w hSw; (try dsimp only at hSw); go_simp; try with_reducible rfl)
    simp only [Act.put, List.setIfInBounds_toArray, List.set_cons_zero, List.set_cons_succ]
    refine tk1 (v := ?_) (by kernel_rfl) (by kernel_rfl) (by kernel_rfl) (fun _ _ _ h => h) (Or.inl ⟨by rfl, ?_⟩) hS ?_
    rotate_left
    · (intro w hSw; (try dsimp only at hSw); go_simp; try with_reducible rfl)
    simp only [Act.put, List.setIfInBounds_toArray, List.set_cons_zero, List.set_cons_succ]
    refine tk2 (v := ?_) (by kernel_rfl) (by kernel_rfl) (by kernel_rfl) (fun _ _ _ h => h) (Or.inl ⟨by rfl, ?_⟩) hS ?_
    rotate_left
    · (intro w hSw; (try dsimp only at hSw); go_simp; try with_reducible rfl)
    simp only [Act.put, List.setIfInBounds_toArray, List.set_cons_zero, List.set_cons_succ]
    refine tk3 (v := ?_) (by kernel_rfl) (by kernel_rfl) (by kernel_rfl) (fun _ _ _ h => h) (Or.inl ⟨by rfl, ?_⟩) hS ?_
    rotate_left
    · (intro w hSw; (try dsimp only at hSw); go_simp; try with_reducible rfl)
    simp only [Act.put, List.setIfInBounds_toArray, List.set_cons_zero, List.set_cons_succ]
    refine tk5 (v := .agg LL.toArray) (by kernel_rfl) (by kernel_rfl) (by kernel_rfl) (fun _ _ _ h => h) (Or.inl ⟨by rfl, ?_⟩) hS ?_
    · intro w hSw
      exact ex_load rfl rfl (load_rule w bq LL hLn (fun j v hv => (hSw.out j v hv).1))
    simp only [Act.put, List.setIfInBounds_toArray, List.set_cons_zero, List.set_cons_succ]
    refine wpAnyH_ready (rs := [4, 6]) (by kernel_rfl) (by simp) (st4 (fun K hK => ?_) (st6 (fun K hK => ?_) AllReadyH.nil))
    · go_simp
      refine hK.out _ _ ?_ (fun hHeld => ?_)
      · exact hS
      clear hK K
      try simp only [Act.put, List.setIfInBounds_toArray, List.set_cons_zero, List.set_cons_succ]
      refine wpAnyH_ready (rs := [6]) (by kernel_rfl) (by simp) (st6 (fun K hK => ?_) AllReadyH.nil)
      refine (if_pos (by kernel_rfl)).mpr ?_
      refine wp_slice1 (y := .agg LL.toArray) rfl rfl (HBS.out _) ?_
      rw [show v7.drew.alloc (.cells LL.toArray 63) = (v7.alloc (.cells LL.toArray 63)).drew from rfl, show v7.drew.heap.size = v7.heap.size from rfl]
      refine hK.out _ _ ?_ (fun hHeld => ?_)
      · exact Lib.hid (D7.out.bel (by omega) ((Below.refl v7.heap.size v7).alloc (Nat.le_refl _) (.cells LL.toArray 63)).drew)
      clear hK K
      try simp only [Act.put, List.setIfInBounds_toArray, List.set_cons_zero, List.set_cons_succ]
      have SA := Lib.hid ((S7.out.alloc (.cells LL.toArray 63)).drew)
      have DA := Lib.hid (D7.out.bel (by omega) ((Below.refl v7.heap.size v7).alloc (Nat.le_refl _) (.cells LL.toArray 63)).drew)
      have AR : Hid (BoxL (v7.alloc (.cells LL.toArray 63)).drew v7.heap.size LL) := BoxL.of (BoxL.new v7 LL 63) rfl
      have CA := Lib.hid (HC.out.keep SA.out.kp.size (fun j hj hj2 => SA.out.kp.block j hj (by rcases hj2 with rfl | hj2 <;> omega)))
      have hsA : (v7.alloc (.cells LL.toArray 63)).drew.heap.size = v7.heap.size + 1 := by simp
      have hbA : ∀ j, j < v7.heap.size → (v7.alloc (.cells LL.toArray 63)).drew.heap[j]? = v7.heap[j]? := ((Below.refl v7.heap.size v7).alloc (Nat.le_refl _) (.cells LL.toArray 63)).drew.block
      have toN : ∀ (t : Tree) (z : NV), NodeA v7 (fun j => bq < j) (offs ts En) t z → NodeA (v7.alloc (.cells LL.toArray 63)).drew (NBl base gx vd (.slice q rs.length rc)) (offs ts En) t z := fun t z hz =>
        NodeA.keep (by omega) (fun j _ hj => hbA j hj) (fun j (hj : bq < j) _ => ⟨by omega, (fun e => by have := (HC.out.dr.lt j e).2; omega), (fun e => by have := (HC.out.rr.lt j e).2; omega), by omega⟩) _ _ hz
      have HX := Lib.hid (toN _ _ N0y.out)
      have HY := Lib.hid (toN _ _ N1y.out)
      clear toN hbA
      generalize (v7.alloc (.cells LL.toArray 63)).drew = UA at *
      obtain ⟨v', W2, hr, hown, hgr, hob⟩ := run_app1 24 63 28 Tryz.underlying24 info_R (by decide) UA base 24 (Value.slice q rs.length rc) rs.length _ CA.out.rr v7.heap.size LL hLn (fun j u hu => (AR.out j u hu).1) hL1 (by omega) (by omega)
      obtain ⟨q', c', rfl⟩ := own_slice hown
      have hdo : some bq ≠ (Value.slice q rs.length rc).ownBlock := fun e => by have := (HC.out.rr.lt bq e.symm).2; omega
      have hco : some cb ≠ (Value.slice q rs.length rc).ownBlock := fun e => by have := (HC.out.rr.lt cb e.symm).1; omega
      have D2x := Lib.hid (DA.out.of (hgr.block bq (DA.out.lt (by omega)) hdo))
      have A2x := CA.out.at2.heap (hgr.block cb CA.out.at2.lt hco)
      rw [HRV.out] at hown
      have hadd := CA.out.addR (r := ⟨nm, ver, kdn, ac, fr, un, kn, wh, gi, pl⟩) (x := x) (y := y) (v' := .slice q' (rs.length + 1) c') hown hgr hob HX.out HY.out
      obtain ⟨a0, a1, g0, g1⟩ := A2x
      refine wpAnyH_ready (rs := [7]) (by kernel_rfl) (by simp) (st7 (fun K hK => ?_) AllReadyH.nil)
      refine (if_pos (by kernel_rfl)).mpr ?_
      refine wp_app (v := Value.slice q rs.length rc) (y := .slice (some ⟨v7.heap.size, 0, none⟩) 1 1) (.tmp 68) (.tmp 70) (by rfl) (by rfl) (by rfl) hr ?_
      refine hK.out _ _ ?_ (fun hHeld => ?_)
      · exact D2x
      clear hK K
      try simp only [Act.put, List.setIfInBounds_toArray, List.set_cons_zero, List.set_cons_succ]
      refine wpAnyH_ready (rs := [8]) (by kernel_rfl) (by simp) (st8 (fun K hK => ?_) AllReadyH.nil)
      go_simp
      refine hK.out _ _ ?_ (fun hHeld => ?_)
      · exact D2x
      clear hK K
      try simp only [Act.put, List.setIfInBounds_toArray, List.set_cons_zero, List.set_cons_succ]
      refine wpAnyH_ready (rs := [9]) (by kernel_rfl) (by simp) (st9 (fun K hK => ?_) AllReadyH.nil)
      go_simp
      refine hK.out _ _ ?_ (fun hHeld => ?_)
      · exact D2x
      clear hK K
      try simp only [Act.put, List.setIfInBounds_toArray, List.set_cons_zero, List.set_cons_succ]
      refine wpAnyH_ready (rs := [10]) (by kernel_rfl) (by simp) (st10 (fun K hK => ?_) AllReadyH.nil)
      go_simp
      have D3x := Lib.hid (D2x.out.other NDc 1 (.slice q' (rs.length + 1) c'))
      refine hK.out _ _ ?_ (fun hHeld => ?_)
      · exact D3x
      clear hK K
      try simp only [Act.put, List.setIfInBounds_toArray, List.set_cons_zero, List.set_cons_succ]
      refine wpAnyH_done (by kernel_rfl) ?_ _
      go_wp2_with fail
      go_end0
      rw [← HO.out]
      refine ⟨k7, vd, .slice q' (rs.length + 1) c', ns ++ [(x, y)], rfl, SA.out.rd.of (by simpa [World.setCell] using hgr.size) (fun j hj hj2 => ?_), rfl, hadd, ⟨hgr.os.trans SA.out.kp.os, hgr.tape.trans SA.out.kp.tape, hgr.output.trans SA.out.kp.output, by simpa [World.setCell] using Nat.le_trans SA.out.kp.size hgr.size, fun j hj hj2 => ?_⟩, .inl rfl, hob.imp id (fun h => ⟨_, h, by omega⟩)⟩
      · have hjb : j < base ∧ j ≠ cb := by
          rcases hj2 with rfl | rfl | ⟨hz, rfl⟩
          · exact ⟨hbb.1, hbb.2.1⟩
          · exact ⟨hbb.2.2.1, hbb.2.2.2.1⟩
          · exact hbb.2.2.2.2.1 hz
        exact (Below.heap_setCell _ _ _ _ hjb.2).trans (hgr.block j hj (fun e => by have := (HC.out.rr.lt j e.symm).1; omega))
      · simp only [not_or] at hj2
        exact (Below.heap_setCell _ _ _ _ hj2.2.1).trans ((hgr.block j (Nat.lt_of_lt_of_le hj SA.out.kp.size) (fun e => hj2.2.2.2 e.symm)).trans (SA.out.kp.block j hj hj2.1))
    · refine (if_pos (by kernel_rfl)).mpr ?_
      refine wp_slice1 (y := .agg LL.toArray) rfl rfl (HBS.out _) ?_
      rw [show v7.drew.alloc (.cells LL.toArray 63) = (v7.alloc (.cells LL.toArray 63)).drew from rfl, show v7.drew.heap.size = v7.heap.size from rfl]
      refine hK.out _ _ ?_ (fun hHeld => ?_)
      · exact Lib.hid (D7.out.bel (by omega) ((Below.refl v7.heap.size v7).alloc (Nat.le_refl _) (.cells LL.toArray 63)).drew)
      clear hK K
      try simp only [Act.put, List.setIfInBounds_toArray, List.set_cons_zero, List.set_cons_succ]
      have hcU2 : (v7.alloc (.cells LL.toArray 63)).drew.cell? ⟨cb, 1, none⟩ = some (.slice q rs.length rc) := (((Below.refl v7.heap.size v7).alloc (Nat.le_refl _) (.cells LL.toArray 63)).drew.cell (p := ⟨cb, 1, none⟩) (by show cb < _; omega)).trans hcU
      refine wpAnyH_ready (rs := [4]) (by kernel_rfl) (by simp) (st4 (fun K hK => ?_) AllReadyH.nil)
      go_simp
      refine hK.out _ _ ?_ (fun hHeld => ?_)
      · exact Lib.hid (D7.out.bel (by omega) ((Below.refl v7.heap.size v7).alloc (Nat.le_refl _) (.cells LL.toArray 63)).drew)
      clear hK K
      try simp only [Act.put, List.setIfInBounds_toArray, List.set_cons_zero, List.set_cons_succ]
      clear hcU2
      have SA := Lib.hid ((S7.out.alloc (.cells LL.toArray 63)).drew)
      have DA := Lib.hid (D7.out.bel (by omega) ((Below.refl v7.heap.size v7).alloc (Nat.le_refl _) (.cells LL.toArray 63)).drew)
      have AR : Hid (BoxL (v7.alloc (.cells LL.toArray 63)).drew v7.heap.size LL) := BoxL.of (BoxL.new v7 LL 63) rfl
      have CA := Lib.hid (HC.out.keep SA.out.kp.size (fun j hj hj2 => SA.out.kp.block j hj (by rcases hj2 with rfl | hj2 <;> omega)))
      have hsA : (v7.alloc (.cells LL.toArray 63)).drew.heap.size = v7.heap.size + 1 := by simp
      have hbA : ∀ j, j < v7.heap.size → (v7.alloc (.cells LL.toArray 63)).drew.heap[j]? = v7.heap[j]? := ((Below.refl v7.heap.size v7).alloc (Nat.le_refl _) (.cells LL.toArray 63)).drew.block
      have toN : ∀ (t : Tree) (z : NV), NodeA v7 (fun j => bq < j) (offs ts En) t z → NodeA (v7.alloc (.cells LL.toArray 63)).drew (NBl base gx vd (.slice q rs.length rc)) (offs ts En) t z := fun t z hz =>
        NodeA.keep (by omega) (fun j _ hj => hbA j hj) (fun j (hj : bq < j) _ => ⟨by omega, (fun e => by have := (HC.out.dr.lt j e).2; omega), (fun e => by have := (HC.out.rr.lt j e).2; omega), by omega⟩) _ _ hz
      have HX := Lib.hid (toN _ _ N0y.out)
      have HY := Lib.hid (toN _ _ N1y.out)
      clear toN hbA
      generalize (v7.alloc (.cells LL.toArray 63)).drew = UA at *
      obtain ⟨v', W2, hr, hown, hgr, hob⟩ := run_app1 24 63 28 Tryz.underlying24 info_R (by decide) UA base 24 (Value.slice q rs.length rc) rs.length _ CA.out.rr v7.heap.size LL hLn (fun j u hu => (AR.out j u hu).1) hL1 (by omega) (by omega)
      obtain ⟨q', c', rfl⟩ := own_slice hown
      have hdo : some bq ≠ (Value.slice q rs.length rc).ownBlock := fun e => by have := (HC.out.rr.lt bq e.symm).2; omega
      have hco : some cb ≠ (Value.slice q rs.length rc).ownBlock := fun e => by have := (HC.out.rr.lt cb e.symm).1; omega
      have D2x := Lib.hid (DA.out.of (hgr.block bq (DA.out.lt (by omega)) hdo))
      have A2x := CA.out.at2.heap (hgr.block cb CA.out.at2.lt hco)
      rw [HRV.out] at hown
      have hadd := CA.out.addR (r := ⟨nm, ver, kdn, ac, fr, un, kn, wh, gi, pl⟩) (x := x) (y := y) (v' := .slice q' (rs.length + 1) c') hown hgr hob HX.out HY.out
      obtain ⟨a0, a1, g0, g1⟩ := A2x
      refine wpAnyH_ready (rs := [7]) (by kernel_rfl) (by simp) (st7 (fun K hK => ?_) AllReadyH.nil)
      refine (if_pos (by kernel_rfl)).mpr ?_
      refine wp_app (v := Value.slice q rs.length rc) (y := .slice (some ⟨v7.heap.size, 0, none⟩) 1 1) (.tmp 68) (.tmp 70) (by rfl) (by rfl) (by rfl) hr ?_
      refine hK.out _ _ ?_ (fun hHeld => ?_)
      · exact D2x
      clear hK K
      try simp only [Act.put, List.setIfInBounds_toArray, List.set_cons_zero, List.set_cons_succ]
      refine wpAnyH_ready (rs := [8]) (by kernel_rfl) (by simp) (st8 (fun K hK => ?_) AllReadyH.nil)
      go_simp
      refine hK.out _ _ ?_ (fun hHeld => ?_)
      · exact D2x
      clear hK K
      try simp only [Act.put, List.setIfInBounds_toArray, List.set_cons_zero, List.set_cons_succ]
      refine wpAnyH_ready (rs := [9]) (by kernel_rfl) (by simp) (st9 (fun K hK => ?_) AllReadyH.nil)
      go_simp
      refine hK.out _ _ ?_ (fun hHeld => ?_)
      · exact D2x
      clear hK K
      try simp only [Act.put, List.setIfInBounds_toArray, List.set_cons_zero, List.set_cons_succ]
      refine wpAnyH_ready (rs := [10]) (by kernel_rfl) (by simp) (st10 (fun K hK => ?_) AllReadyH.nil)
      go_simp
      have D3x := Lib.hid (D2x.out.other NDc 1 (.slice q' (rs.length + 1) c'))
      refine hK.out _ _ ?_ (fun hHeld => ?_)
      · exact D3x
      clear hK K
      try simp only [Act.put, List.setIfInBounds_toArray, List.set_cons_zero, List.set_cons_succ]
      refine wpAnyH_done (by kernel_rfl) ?_ _
      go_wp2_with fail
      go_end0
      rw [← HO.out]
      refine ⟨k7, vd, .slice q' (rs.length + 1) c', ns ++ [(x, y)], rfl, SA.out.rd.of (by simpa [World.setCell] using hgr.size) (fun j hj hj2 => ?_), rfl, hadd, ⟨hgr.os.trans SA.out.kp.os, hgr.tape.trans SA.out.kp.tape, hgr.output.trans SA.out.kp.output, by simpa [World.setCell] using Nat.le_trans SA.out.kp.size hgr.size, fun j hj hj2 => ?_⟩, .inl rfl, hob.imp id (fun h => ⟨_, h, by omega⟩)⟩
      · have hjb : j < base ∧ j ≠ cb := by
          rcases hj2 with rfl | rfl | ⟨hz, rfl⟩
          · exact ⟨hbb.1, hbb.2.1⟩
          · exact ⟨hbb.2.2.1, hbb.2.2.2.1⟩
          · exact hbb.2.2.2.2.1 hz
        exact (Below.heap_setCell _ _ _ _ hjb.2).trans (hgr.block j hj (fun e => by have := (HC.out.rr.lt j e.symm).1; omega))
      · simp only [not_or] at hj2
        exact (Below.heap_setCell _ _ _ _ hj2.2.1).trans ((hgr.block j (Nat.lt_of_lt_of_le hj SA.out.kp.size) (fun e => hj2.2.2.2 e.symm)).trans (SA.out.kp.block j hj hj2.1))
end
end Go.Proofs.YtedbpjcglnkjmaaGreatDoor
namespace Go.Proofs.YtedbpjcglnkjmaaGreatDoor
open Go.RowKit Lx Pa

section
variable {b cap qb En mb base cb gx : Nat} {p : Option Addr} {ts : List Tok} {ds : List Decl} {rs : List Rule} {vd vr : Value} {ns : List (NV × NV)}
theorem PostD.pre {w0 w1 w' : World} {D : Pa.Item → List Decl} {R : Pa.Item → List Rule} {o : Out Pa.Item} {e : Ending} (hk : Kept b w0 w1) (h : PostD w1 b p cap qb ts En mb base cb gx vd vr D R o e w') : PostD w0 b p cap qb ts En mb base cb gx vd vr D R o e w' := by
  unfold PostD at h ⊢
  cases o with
  | ok d r =>
    obtain ⟨k', vd', vr', ns', h1, h2, h3, h4, h5, h6, h7⟩ := h
    exact ⟨k', vd', vr', ns', h1, h2, h3, h4, ⟨h5.os.trans hk.os, h5.tape.trans hk.tape, h5.output.trans hk.output, Nat.le_trans hk.size h5.size, fun j hj hj2 => (h5.block j (Nat.lt_of_lt_of_le hj hk.size) hj2).trans (hk.block j hj (fun e => hj2 (.inl e)))⟩,
      h6.imp id (fun ⟨j, a, c⟩ => ⟨j, a, Nat.le_trans hk.size c⟩), h7.imp id (fun ⟨j, a, c⟩ => ⟨j, a, Nat.le_trans hk.size c⟩)⟩
  | er E q m =>
    obtain ⟨k', h1, h2, h3, h4⟩ := h
    exact ⟨k', h1, hk.trans h2, h3, h4⟩
theorem kind_no {x : List UInt8} (h : idx kinds x = none) : kindN x = 0 := by unfold kindN; rw [h]; rfl
theorem kind_yes {x : List UInt8} {i : Nat} (h : idx kinds x = some i) : kindN x = ((i + 1 : Nat) : Int) := by unfold kindN; rw [h]; rfl
set_option maxRecDepth 100000 in
set_option maxHeartbeats 6000000 in
theorem decl_any (fd fr : Bool) (k : Nat) (w : World) (h : Rd w b p cap qb ts En mb k) (hC : Cx w base cb gx (offs ts En) ds rs vd vr ns) (hfd : ((ds.length : Int) == 12) = fd) (hfr : ((rs.length : Int) == 100) = fr) (hbb : b < base ∧ b ≠ cb ∧ mb < base ∧ mb ≠ cb ∧ (0 < ts.length → qb < base ∧ qb ≠ cb) ∧ base ≤ w.heap.size) (hgx : gx < w.heap.size) (hdl : ds.length ≤ 1000) (hrl : rs.length ≤ 1000) :
    Calls Tryz.prog 45 #[.pointer (some ⟨b, 0, none⟩), .pointer (some ⟨cb, 0, none⟩)] w fun e w' => PostD w b p cap qb ts En mb base cb gx vd vr (dSet ds) (rSet rs) (declO fd fr (ts.drop k)) e w' := by
  have KP := Lib.hid (peek_any w h)
  have HWF : Hid (isW kFact (ts.drop k) = ((pk ts En k).t == kFact)) := pk_isW h.ok (by decide)
  have HWK : Hid (which kinds (ts.drop k) = idx kinds (pk ts En k).t) := by show _ = _; unfold which; rw [which_pk (En := En) h.ok kinds 0 (by decide)]; simp
  have HL : Hid ((pk ts En k).t ≠ [] → k < ts.length) := pk_lt
  have HAO : Hid ((pk ts En k).a = offs ts En (ts.length - k)) := pk_offs h.kl
  have S0 := Lib.hid (Sx.start h)
  have hk1 := succ_in h.kl h.tk.max
  have hlen : (ts.drop k).length = ts.length - k := List.length_drop
  have hcbl := hC.lt
  have HCk := Lib.hid (fun (v : World) (hs : w.heap.size ≤ v.heap.size) (hk : ∀ j, j < w.heap.size → j ≠ b → v.heap[j]? = w.heap[j]?) => hC.keep (w' := v) hs (fun j hj hj2 => hk j hj (by rcases hj2 with rfl | hj2 <;> omega)))
  generalize hO : declO fd fr (ts.drop k) = O
  unfold declO at hO
  rw [HWF.out, HWK.out, hlen, List.tail_drop] at hO
  have HO := Lib.hid hO
  clear hO hlen h hC
  generalize pk ts En k = t at *
  obtain ⟨tk, ta, tt, tn, td⟩ := t
  unfold tokV at KP
  simp only at HL HO HAO
  have fld := fld_text
  obtain ⟨kd, hkd⟩ : ∃ z, z = kindN tt := ⟨_, rfl⟩
  have KK := Lib.hid (fun w => kindOf_any tt w)
  rw [← hkd] at KK
  have HKD := Lib.hid hkd
  clear hkd
  have HBX := Lib.hid (fun (v : World) => B5.new v (.int .i64 tk) (.int .i64 ta) (.string (bs tt)) (.int .i64 tn) (.int .i64 td) 88)
  by_cases hx : tt = kFact
  · have hl := HL.out (by rw [hx]; decide)
    have hkd0 : kd = 0 := by rw [HKD.out, hx]; rfl
    subst hkd0
    have e1 : ((bs tt).toList == [102, 97, 99, 116]) = true := by rw [bs_list, hx]; rfl
    have HO2 := HO.out
    rw [show (tt == kFact) = true by rw [hx]; rfl, if_pos rfl] at HO2
    have KX := Lib.hid (fun v hv1 hv2 hv3 => fact_any (p := p) (cap := cap) (qb := qb) (En := En) (mb := mb) (b := b) (base := base) (cb := cb) (gx := gx) (ts := ts) (vd := vd) (vr := vr) (rs := rs) (ns := ns) fd (ts.length - k) (k + 1) v hv1 hv2 hfd hv3 hdl)
    rw [HO2, ← HAO.out] at KX
    clear HO HO2 HL HKD hx HWF HWK
    go_enter Tryz.func45, Tryz.ntmps45
    go_wp2_with fail
    refine KP.out.mono ?_
    rintro _ v ⟨rfl, hb⟩
    have S1 := Lib.hid ((S0.out.bel hb).alloc (.cells #[.int .i64 tk, .int .i64 ta, .string (bs tt), .int .i64 tn, .int .i64 td] 88))
    have X1 := Lib.hid (HBX.out v)
    have hv := hb.size
    have hv1 : (v.alloc (.cells #[.int .i64 tk, .int .i64 ta, .string (bs tt), .int .i64 tn, .int .i64 td] 88)).heap.size = v.heap.size + 1 := by simp
    have hbl := S0.out.bl
    have NB1 : v.heap.size ≠ b := by omega
    clear hb KP S0 HBX
    obtain ⟨x0, x1, x2, x3, x4, -, -, -, -, -⟩ := X1.out
    go_wp2_with fail
    clear x0 x1 x2 x3 x4
    change Calls _ _ _ (v.alloc (.cells #[.int .i64 tk, .int .i64 ta, .string (bs tt), .int .i64 tn, .int .i64 td] 88)) _
    generalize v.alloc (.cells #[.int .i64 tk, .int .i64 ta, .string (bs tt), .int .i64 tn, .int .i64 td] 88) = V1 at *
    refine (KK.out _).mono ?_
    rintro _ v1 ⟨rfl, rfl⟩
    obtain ⟨x0, x1, x2, x3, x4, -, -, -, -, -⟩ := X1.out
    obtain ⟨-, c1, -, -, f1, -, -, -, -, -, -⟩ := S1.out.rd
    go_wp2_with fail
    clear x0 x1 x2 x3 x4 c1 f1
    have S2 : Hid (Sx w (v1.setCell ⟨b, 1, none⟩ (.int .i64 ((k : Int) + 1))) b p cap qb ts En mb (k + 1)) := S1.out.next (k' := k + 1) hl
    have hv2 : (v1.setCell ⟨b, 1, none⟩ (.int .i64 ((k : Int) + 1))).heap.size = v1.heap.size := by simp [World.setCell]
    clear S1 X1
    generalize v1.setCell ⟨b, 1, none⟩ (.int .i64 ((k : Int) + 1)) = V2 at *
    have HC2 := Lib.hid (HCk.out V2 (by omega) (fun j hj hj2 => S2.out.kp.block j hj hj2))
    refine (KX.out V2 S2.out.rd HC2.out ⟨hbb.1, hbb.2.1, hbb.2.2.1, hbb.2.2.2.1, hbb.2.2.2.2.1, by omega⟩).mono ?_
    intro e v3 hp
    replace hp := PostD.pre S2.out.kp hp
    clear KX HC2 HCk
    cases O with
    | ok d r =>
      obtain ⟨k', vd', vr', ns', rfl, hp⟩ := hp
      have HP := Lib.hid hp
      clear hp
      go_wp2_with fail
      go_end0
      exact ⟨k', vd', vr', ns', rfl, HP.out⟩
    | er E q m =>
      obtain ⟨k', rfl, hp⟩ := hp
      have HP := Lib.hid hp
      clear hp
      go_wp2_with fail
      exact bodyPost_panic rfl ⟨k', rfl, HP.out⟩
  · have e1 : ((bs tt).toList == [102, 97, 99, 116]) = false := by rw [bs_list]; simpa [kFact] using hx
    have HO2 := HO.out
    rw [show (tt == kFact) = false by simpa using hx, if_neg (by simp)] at HO2
    cases hi : idx kinds tt with
    | none =>
      have hkd0 : kd = 0 := by rw [HKD.out]; exact kind_no hi
      subst hkd0
      rw [hi] at HO2
      have HOB := Lib.hid HO2
      clear HO HO2 HL HKD hx HWF HWK hi
      go_enter Tryz.func45, Tryz.ntmps45
      go_wp2_with fail
      refine KP.out.mono ?_
      rintro _ v ⟨rfl, hb⟩
      have S1 := Lib.hid ((S0.out.bel hb).alloc (.cells #[.int .i64 tk, .int .i64 ta, .string (bs tt), .int .i64 tn, .int .i64 td] 88))
      have X1 := Lib.hid (HBX.out v)
      have hv := hb.size
      have hv1 : (v.alloc (.cells #[.int .i64 tk, .int .i64 ta, .string (bs tt), .int .i64 tn, .int .i64 td] 88)).heap.size = v.heap.size + 1 := by simp
      have hbl := S0.out.bl
      have NB1 : v.heap.size ≠ b := by omega
      clear hb KP S0 HBX
      obtain ⟨x0, x1, x2, x3, x4, -, -, -, -, -⟩ := X1.out
      go_wp2_with fail
      clear x0 x1 x2 x3 x4
      change Calls _ _ _ (v.alloc (.cells #[.int .i64 tk, .int .i64 ta, .string (bs tt), .int .i64 tn, .int .i64 td] 88)) _
      generalize v.alloc (.cells #[.int .i64 tk, .int .i64 ta, .string (bs tt), .int .i64 tn, .int .i64 td] 88) = V1 at *
      refine (KK.out _).mono ?_
      rintro _ v1 ⟨rfl, rfl⟩
      obtain ⟨x0, x1, x2, x3, x4, -, -, -, -, -⟩ := X1.out
      go_wp2_with fail
      refine (refuse_any _ S1.out.rd).mono ?_
      rintro _ v2 ⟨rfl, hb⟩
      have S2 := Lib.hid (S1.out.bel hb)
      clear hb S1 X1 x0 x1 x2 x3 x4
      go_wp2_with fail
      exact bodyPost_panic rfl (PostD.er (E := 10) (q := ts.length - k) (m := ts.length - k) (by rw [← HOB.out]; unfold Pa.bad; rw [List.length_drop]) rfl rfl S2.out)
    | some i =>
      have hl := HL.out (by intro e0; rw [e0] at hi; exact absurd hi (by show idx kinds [] ≠ _; rw [show idx kinds [] = none by rfl]; simp))
      have hkd1 : kd = ((i + 1 : Nat) : Int) := by rw [HKD.out]; exact kind_yes hi
      have e2 : (kd == 0) = false := by rw [hkd1]; simp; omega
      rw [hi] at HO2
      simp only at HO2
      have KX := Lib.hid (fun v hv1 hv2 hv3 hv4 => rule_any (p := p) (cap := cap) (qb := qb) (En := En) (mb := mb) (b := b) (base := base) (cb := cb) (gx := gx) (ts := ts) (vd := vd) (vr := vr) (ds := ds) (ns := ns) fr (ts.length - k) (k + 1) (i + 1) v hv1 hv2 hfr hv3 hv4 hrl)
      rw [HO2, ← HAO.out, ← hkd1] at KX
      clear HO HO2 HL HKD hx HWF HWK hi hkd1
      go_enter Tryz.func45, Tryz.ntmps45
      go_wp2_with fail
      refine KP.out.mono ?_
      rintro _ v ⟨rfl, hb⟩
      have S1 := Lib.hid ((S0.out.bel hb).alloc (.cells #[.int .i64 tk, .int .i64 ta, .string (bs tt), .int .i64 tn, .int .i64 td] 88))
      have X1 := Lib.hid (HBX.out v)
      have hv := hb.size
      have hv1 : (v.alloc (.cells #[.int .i64 tk, .int .i64 ta, .string (bs tt), .int .i64 tn, .int .i64 td] 88)).heap.size = v.heap.size + 1 := by simp
      have hbl := S0.out.bl
      have NB1 : v.heap.size ≠ b := by omega
      clear hb KP S0 HBX
      obtain ⟨x0, x1, x2, x3, x4, -, -, -, -, -⟩ := X1.out
      go_wp2_with fail
      clear x0 x1 x2 x3 x4
      change Calls _ _ _ (v.alloc (.cells #[.int .i64 tk, .int .i64 ta, .string (bs tt), .int .i64 tn, .int .i64 td] 88)) _
      generalize v.alloc (.cells #[.int .i64 tk, .int .i64 ta, .string (bs tt), .int .i64 tn, .int .i64 td] 88) = V1 at *
      refine (KK.out _).mono ?_
      rintro _ v1 ⟨rfl, rfl⟩
      obtain ⟨x0, x1, x2, x3, x4, -, -, -, -, -⟩ := X1.out
      obtain ⟨-, c1, -, -, f1, -, -, -, -, -, -⟩ := S1.out.rd
      go_wp2_with fail
      clear x0 x1 x2 x3 x4 c1 f1
      have S2 : Hid (Sx w (v1.setCell ⟨b, 1, none⟩ (.int .i64 ((k : Int) + 1))) b p cap qb ts En mb (k + 1)) := S1.out.next (k' := k + 1) hl
      have hv2 : (v1.setCell ⟨b, 1, none⟩ (.int .i64 ((k : Int) + 1))).heap.size = v1.heap.size := by simp [World.setCell]
      clear S1 X1
      generalize v1.setCell ⟨b, 1, none⟩ (.int .i64 ((k : Int) + 1)) = V2 at *
      have HC2 := Lib.hid (HCk.out V2 (by omega) (fun j hj hj2 => S2.out.kp.block j hj hj2))
      refine (KX.out V2 S2.out.rd HC2.out ⟨hbb.1, hbb.2.1, hbb.2.2.1, hbb.2.2.2.1, hbb.2.2.2.2.1, by omega⟩ (by omega)).mono ?_
      intro e v3 hp
      replace hp := PostD.pre S2.out.kp hp
      clear KX HC2 HCk
      cases O with
      | ok d r =>
        obtain ⟨k', vd', vr', ns', rfl, hp⟩ := hp
        have HP := Lib.hid hp
        clear hp
        go_wp2_with fail
        go_end0
        exact ⟨k', vd', vr', ns', rfl, HP.out⟩
      | er E q m =>
        obtain ⟨k', rfl, hp⟩ := hp
        have HP := Lib.hid hp
        clear hp
        go_wp2_with fail
        exact bodyPost_panic rfl ⟨k', rfl, HP.out⟩
end
end Go.Proofs.YtedbpjcglnkjmaaGreatDoor
