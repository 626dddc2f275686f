/-
  Contract of the parser: row.
  Contracts of the parser: factor, by what the next token is.
  Contracts of the parser: comparison, not, expr, call, and a factor that is a name.
-/
import Derived.Test.YtedbpjcglnkjmaaGreatDoorZE
namespace Go.Proofs.YtedbpjcglnkjmaaGreatDoor
open Go.RowKit Lx Pa

theorem rd_row {M : Int → Int → Int × Int × Int} {l : Nat} (h6 : l < 6) (h2 : l ≠ 2) (ts : List Tok) : rd M (.row l) ts = (rd M (.row (l + 1)) ts).bind fun n r => rd M (.loop l ts.length n) r := by
  rw [rd_eq]
  simp only [Pa.step]
  rw [if_neg (by omega), if_neg h2]
theorem rd_loop {M : Int → Int → Int × Int × Int} {l pl : Nat} {n : Tree} (h3 : l ≠ 3) (ts : List Tok) : rd M (.loop l pl n) ts = match which (signs l) ts with
    | none => .ok n ts
    | some i => (rd M (.row (l + 1)) ts.tail).bind fun m r => rd M (.loop l pl (.mk ((ops l).getD i 0) pl [] 0 0 1 [n, m])) r := by
  rw [rd_eq]
  simp only [Pa.step]
  cases which (signs l) ts with
  | none => rfl
  | some i => simp only [if_neg h3]
theorem NodeA.set {w : World} {A : Nat → Prop} {ofs : Nat → Int} {t : Tree} {x : NV} (h : NodeA w A ofs t x) {r : Nat} (hr : ¬ A r) (o : Nat) (y : Value) : NodeA (w.setCell ⟨r, o, none⟩ y) A ofs t x :=
  NodeA.keep (by simp [World.setCell]) (fun j hj _ => Below.heap_setCell _ _ _ _ (by show j ≠ r; rintro rfl; exact hr hj)) (fun _ h _ => h) t x h
section
variable {b cap qb En mb : Nat} {p : Option Addr} {ts : List Tok}
theorem loop_pk {l pl k : Nat} {n : Tree} (hk : TokOk ts) (hl : l < 6 ∧ l ≠ 2) (h3 : l ≠ 3) : rd M0 (.loop l pl n) (ts.drop k) = match opAt (lv l) (pk ts En k).t with
    | none => .ok n (ts.drop k)
    | some (o, _) => (rd M0 (.row (l + 1)) (ts.drop (k + 1))).bind fun m r => rd M0 (.loop l pl (.mk o pl [] 0 0 1 [n, m])) r := by
  have hs : [] ∉ signs l := by
    have : l = 0 ∨ l = 1 ∨ l = 3 ∨ l = 4 ∨ l = 5 := by omega
    rcases this with rfl | rfl | rfl | rfl | rfl <;> decide
  rw [rd_loop h3, opAt_lv l hl]
  unfold which
  rw [which_pk (En := En) hk (signs l) 0 hs, List.tail_drop]
  cases idx (signs l) (pk ts En k).t with
  | none => rfl
  | some i => rfl
theorem opAt_ex {l : Nat} {x : List UInt8} {o : Int} {e : Bool} (hl : l < 6 ∧ l ≠ 2) (h3 : l ≠ 3) (h : opAt (lv l) x = some (o, e)) : e = false := by
  rw [opAt_lv l hl] at h
  cases hi : idx (signs l) x with
  | none => rw [hi] at h; cases h
  | some i =>
    rw [hi] at h
    simp only [Option.map_some, Option.some.injEq, Prod.mk.injEq] at h
    rw [← h.2, decide_eq_false h3, Bool.false_and]
theorem lv_pos (l : Nat) : 0 < lv l := by unfold lv; split <;> omega
/-- How things stand in the loop of row: the left operand lies in a block of its own. -/
structure Rw (w wr : World) (b : Nat) (p : Option Addr) (cap qb : Nat) (ts : List Tok) (En mb k lq : Nat) (n : Tree) (x : NV) : Prop where
  st : Sx w wr b p cap qb ts En mb k
  rb : B10 wr w.heap.size (.int .i64 0) (.int .i64 0) (.string ⟨#[]⟩) (.int .i64 0) (.int .i64 0) (.bool false) (.int .i64 0) (.int .i64 0) (.int .i64 0) (.slice none 0 0)
  lb : B10 wr lq (.int .i64 x.o) (.int .i64 x.a) (.string x.s) (.int .i64 x.n) (.int .i64 x.d) (.bool x.f) (.int .i64 x.m) (.int .i64 x.r) (.int .i64 x.y) (.slice x.q x.k x.c)
  nd : NodeA wr (fun j => w.heap.size + 1 ≤ j ∧ j ≠ lq) (offs ts En) n x
  lt : w.heap.size < lq
set_option maxRecDepth 100000 in
set_option maxHeartbeats 8000000 in
theorem prow_any (l : Nat) (hl : l < 6 ∧ l ≠ 2) (h3 : l ≠ 3) (N : Nat) (F : FuncId) (hE : ∀ (args : Array Value) (w : World), (callFunc F args).run Tryz.prog w = .ok (.enter F args) w)
    (HF : ∀ (k : Nat) (w : World), Rd w b p cap qb ts En mb k → ts.length - k ≤ N → Calls Tryz.prog F #[.pointer (some ⟨b, 0, none⟩)] w fun e w' => PostO w b p cap qb ts En mb (vX w.heap.size (offs ts En)) (rd M0 (.row (l + 1)) (ts.drop k)) e w')
    (k : Nat) (w : World) (h : Rd w b p cap qb ts En mb k) (hN : ts.length - k ≤ N) :
    Calls Tryz.prog 92 #[.pointer (some ⟨b, 0, none⟩), .int .i64 (lv l), .func (.func F) #[.pointer (some ⟨b, 0, none⟩)] #[]] w fun e w' => PostO w b p cap qb ts En mb (vX w.heap.size (offs ts En)) (rd M0 (.row l) (ts.drop k)) e w' := by
  have hf := fld_at
  have hok := h.ok
  have KP := Lib.hid (fun w h => peek_any (b := b) (cap := cap) (qb := qb) (En := En) (mb := mb) (k := k) (p := p) (ts := ts) w h)
  have HP : Hid ((pk ts En k).a = offs ts En (ts.length - k)) := pk_offs h.kl
  have HF := Lib.hid HF
  have hlv := lv_pos l
  rw [rd_row hl.1 hl.2, List.length_drop]
  generalize hO : ((rd M0 (.row (l + 1)) (ts.drop k)).bind fun n r => rd M0 (.loop l (ts.length - k) n) r) = O
  have HO := Lib.hid hO
  clear hO
  obtain ⟨LV, hLV⟩ : ∃ z, z = lv l := ⟨_, rfl⟩
  have HY := Lib.hid (fun (k : Nat) (w : World) (h : Rd w b p cap qb ts En mb k) o x ho => oper_yes (lv l) w h hlv o x ho)
  have HNo := Lib.hid (fun (k : Nat) (w : World) (h : Rd w b p cap qb ts En mb k) ho => oper_no (lv l) w h hlv ho)
  rw [← hLV] at HY HNo ⊢
  have HLV := Lib.hid hLV
  clear hLV hlv
  have S0 := Lib.hid ((Sx.start h).alloc (.cells #[.int .i64 0, .int .i64 0, .string ⟨#[]⟩, .int .i64 0, .int .i64 0, .bool false, .int .i64 0, .int .i64 0, .int .i64 0, .slice none 0 0] 36))
  have R0 := Lib.hid (B10.new w (.int .i64 0) (.int .i64 0) (.string ⟨#[]⟩) (.int .i64 0) (.int .i64 0) (.bool false) (.int .i64 0) (.int .i64 0) (.int .i64 0) (.slice none 0 0) 36)
  have NB : w.heap.size ≠ b := by have := h.lt; omega
  have B0 : (w.alloc (.cells #[.int .i64 0, .int .i64 0, .string ⟨#[]⟩, .int .i64 0, .int .i64 0, .bool false, .int .i64 0, .int .i64 0, .int .i64 0, .slice none 0 0] 36)).heap.size = w.heap.size + 1 := by simp
  clear h
  obtain ⟨at0, hat⟩ : ∃ z, z = offs ts En (ts.length - k) := ⟨_, rfl⟩
  rw [← hat] at HP
  have HAT := Lib.hid hat
  clear hat
  have HA : Hid ((pk ts En k).a = at0) := HP
  generalize pk ts En k = t at *
  obtain ⟨tk, ta, tt, tn, td⟩ := t
  obtain rfl : ta = at0 := HA.out
  clear HP HA
  unfold tokV at KP
  go_enter Tryz.func92, Tryz.ntmps92
  go_wp2_with fail
  change Calls _ _ _ (w.alloc (.cells #[.int .i64 0, .int .i64 0, .string ⟨#[]⟩, .int .i64 0, .int .i64 0, .bool false, .int .i64 0, .int .i64 0, .int .i64 0, .slice none 0 0] 36)) _
  generalize w.alloc (.cells #[.int .i64 0, .int .i64 0, .string ⟨#[]⟩, .int .i64 0, .int .i64 0, .bool false, .int .i64 0, .int .i64 0, .int .i64 0, .slice none 0 0] 36) = V at *
  refine (KP.out _ S0.out.rd).mono ?_
  rintro _ v ⟨rfl, hb⟩
  have S1 := Lib.hid (S0.out.bel hb)
  have R1 := Lib.hid (R0.out.bel hb)
  have hv := hb.size
  clear hb S0 R0 KP
  have KF := Lib.hid (HF.out k v S1.out.rd hN)
  have HG := Lib.hid (good_rd (M := M0) (.row (l + 1)) (ts.drop k))
  generalize ho : rd M0 (.row (l + 1)) (ts.drop k) = o at *
  clear ho
  go_wp2_with fail
  refine KF.out.mono ?_
  cases o with
  | er E q m =>
    rintro _ v2 ⟨k', rfl, hkp, hrd, hm⟩
    have S2 := Lib.hid (S1.out.call hkp hrd)
    go_wp2_with fail
    exact bodyPost_panic rfl (PostO.er HO.out.symm rfl hm S2.out)
  | ok n r =>
    rintro _ v2 ⟨_, k1, rfl, ⟨⟨xo, xa, xs, xn, xd, xf, xm, xr, xy, xq, xk, xc⟩, rfl, hx⟩, hkp, hrd, rfl⟩
    have hsz := hkp.size
    have hsz' := hv
    have hbv := S1.out.bl
    have hk1 : k1 ≤ ts.length := hrd.kl
    have hkk : ts.length - k1 ≤ N := by
      have := HG.out.len.2 rfl
      simp only [List.length_drop] at this
      omega
    have H0 : Hid (Rw w (v2.alloc (.cells #[.int .i64 xo, .int .i64 xa, .string xs, .int .i64 xn, .int .i64 xd, .bool xf, .int .i64 xm, .int .i64 xr, .int .i64 xy, .slice xq xk xc] 36)) b p cap qb ts En mb k1 v2.heap.size n ⟨xo, xa, xs, xn, xd, xf, xm, xr, xy, xq, xk, xc⟩) := by
      have hbl := (Below.refl v2.heap.size v2).alloc (Nat.le_refl _) (.cells #[.int .i64 xo, .int .i64 xa, .string xs, .int .i64 xn, .int .i64 xd, .bool xf, .int .i64 xm, .int .i64 xr, .int .i64 xy, .slice xq xk xc] 36)
      exact ⟨(S1.out.call hkp hrd).bel hbl, (R1.out.call hkp NB).bel hbl, B10.new v2 (.int .i64 xo) (.int .i64 xa) (.string xs) (.int .i64 xn) (.int .i64 xd) (.bool xf) (.int .i64 xm) (.int .i64 xr) (.int .i64 xy) (.slice xq xk xc) 36, NodeA.keep (w := v2) hbl.size (fun j _ hj => hbl.block j hj) (fun j (hj : v.heap.size ≤ j) hj2 => ⟨by omega, by omega⟩) _ _ hx, by omega⟩
    clear hkp hrd hx S1 R1 KF
    unfold nv
    have HO2 := HO.out
    rw [bind_ok] at HO2
    replace HO := Lib.hid HO2
    clear HO2
    have NLB : v2.heap.size ≠ b := by have := hbv; omega
    have hlw : w.heap.size < v2.heap.size := by omega
    go_wp2_with fail
    have hV2 : (v2.alloc (.cells #[.int .i64 xo, .int .i64 xa, .string xs, .int .i64 xn, .int .i64 xd, .bool xf, .int .i64 xm, .int .i64 xr, .int .i64 xy, .slice xq xk xc] 36)).heap.size = v2.heap.size + 1 := by simp
    generalize v2.heap.size = lq at *
    generalize v2.alloc (.cells #[.int .i64 xo, .int .i64 xa, .string xs, .int .i64 xn, .int .i64 xd, .bool xf, .int .i64 xm, .int .i64 xr, .int .i64 xy, .slice xq xk xc] 36) = V2 at *
    go_loopg [] ts.length (fun g wr => ∃ (k' : Nat) (n : Tree) (x : NV), ts.length - k' ≤ g ∧ ts.length - k' ≤ N ∧ Hid (Rw w wr b p cap qb ts En mb k' lq n x) ∧ Hid (rd M0 (.loop l (ts.length - k) n) (ts.drop k') = O))
    case atStart => exact ⟨k1, n, _, by omega, hkk, H0, HO⟩
    case round =>
      clear H0 HO n hk1 hkk hsz hsz' HG
      obtain ⟨k', n, ⟨xo, xa, xs, xn, xd, xf, xm, xr, xy, xq, xk, xc⟩, hg, hk', H, HO⟩ := hrel
      have HE := HO.out
      rw [loop_pk (En := En) hok hl h3, ← HLV.out] at HE
      have hql := World.block_lt_of_cell? _ _ H.out.lb.c0
      simp only at hql
      cases hop : opAt LV (pk ts En k').t with
      | none =>
        rw [hop] at HE
        simp only at HE
        have K1 := Lib.hid (HNo.out k' wr H.out.st.rd hop)
        replace HE := Lib.hid HE
        clear hop HO
        go_wp2_with fail
        refine K1.out.mono ?_
        rintro _ v3 ⟨rfl, hkp, hrd⟩
        have bl := (Below.refl v3.heap.size v3).alloc (Nat.le_refl _) (.cells #[.int .i64 0, .int .i64 0, .bool false] 119)
        have S3 := Lib.hid ((H.out.st.call hkp hrd).bel bl)
        have R3 := Lib.hid ((H.out.rb.call hkp NB).bel bl)
        have L3 := Lib.hid ((H.out.lb.call hkp NLB).bel bl)
        have HN : Hid (NodeV (v3.alloc (.cells #[.int .i64 0, .int .i64 0, .bool false] 119)) (w.heap.size + 1) (offs ts En) n ⟨xo, xa, xs, xn, xd, xf, xm, xr, xy, xq, xk, xc⟩) := NodeA.bel bl _ _ (NodeA.keep hkp.size (fun j hj hj2 => hkp.block j hj2 (by have := H.out.st.bl; omega)) (fun j hj _ => hj.1) _ _ H.out.nd)
        clear bl hkp hrd K1 H
        unfold opV
        obtain ⟨z0, z1, z2, z3, z4, z5, z6, z7, z8, z9, -, -, -, -, -, -, -, -, -, -⟩ := L3.out
        obtain ⟨r0, r1, r2, r3, r4, r5, r6, r7, r8, r9, q0, q1, q2, q3, q4, q5, q6, q7, q8, q9⟩ := R3.out
        go_wp2_with fail
        refine (?_ : ∀ F : World, B10 F w.heap.size (.int .i64 xo) (.int .i64 xa) (.string xs) (.int .i64 xn) (.int .i64 xd) (.bool xf) (.int .i64 xm) (.int .i64 xr) (.int .i64 xy) (.slice xq xk xc) → Sx w F b p cap qb ts En mb k' → Kfr (w.heap.size + 1) (v3.alloc (.cells #[.int .i64 0, .int .i64 0, .bool false] 119)) F → bodyPost _ _ _ _ _ F) _ (R3.out.put _ _ _ _ _ _ _ _ _ _) ?_ ?_
        · intro F hF hS hK
          obtain ⟨y0, y1, y2, y3, y4, y5, y6, y7, y8, y9, -, -, -, -, -, -, -, -, -, -⟩ := hF
          exact bodyPost_ret (v := .agg #[.int .i64 xo, .int .i64 xa, .string xs, .int .i64 xn, .int .i64 xd, .bool xf, .int .i64 xm, .int .i64 xr, .int .i64 xy, .slice xq xk xc]) (by simp [results, Tryz.results92, go_sem, y0, y1, y2, y3, y4, y5, y6, y7, y8, y9]) rfl (PostO.ok HE.out.symm ⟨⟨xo, xa, xs, xn, xd, xf, xm, xr, xy, xq, xk, xc⟩, rfl, NodeV.keep hK (by omega) _ _ HN.out⟩ hS)
        · exact ((((((((((S3.out.other (Nat.le_refl _) 0 _).other (Nat.le_refl _) 1 _).other (Nat.le_refl _) 2 _).other (Nat.le_refl _) 3 _).other (Nat.le_refl _) 4 _).other (Nat.le_refl _) 5 _).other (Nat.le_refl _) 6 _).other (Nat.le_refl _) 7 _).other (Nat.le_refl _) 8 _).other (Nat.le_refl _) 9 _)
        · exact (((((((((((Kfr.refl (w.heap.size + 1) _).set (by omega) 0 none _).set (by omega) 1 none _).set (by omega) 2 none _).set (by omega) 3 none _).set (by omega) 4 none _).set (by omega) 5 none _).set (by omega) 6 none _).set (by omega) 7 none _).set (by omega) 8 none _).set (by omega) 9 none _)
      | some e =>
        obtain ⟨op, ex⟩ := e
        obtain rfl := opAt_ex hl h3 (by rw [← HLV.out]; exact hop)
        rw [hop] at HE
        simp only at HE
        have K1 := Lib.hid (HY.out k' wr H.out.st.rd op false hop)
        replace HE := Lib.hid HE
        clear hop HO
        go_wp2_with fail
        refine K1.out.mono ?_
        rintro _ v3 ⟨rfl, hkp, hrd⟩
        have bl := (Below.refl v3.heap.size v3).alloc (Nat.le_refl _) (.cells #[.int .i64 LV, .int .i64 op, .bool false] 119)
        have S3 := Lib.hid ((H.out.st.call hkp hrd).bel bl)
        have R3 := Lib.hid ((H.out.rb.call hkp NB).bel bl)
        have L3 := Lib.hid ((H.out.lb.call hkp NLB).bel bl)
        have P3 := Lib.hid (B3.new v3 (.int .i64 LV) (.int .i64 op) (.bool false) 119)
        have ND : Hid (NodeA (v3.alloc (.cells #[.int .i64 LV, .int .i64 op, .bool false] 119)) (fun j => w.heap.size + 1 ≤ j ∧ j ≠ lq) (offs ts En) n ⟨xo, xa, xs, xn, xd, xf, xm, xr, xy, xq, xk, xc⟩) := NodeA.bel bl _ _ (NodeA.keep hkp.size (fun j hj hj2 => hkp.block j hj2 (by have := H.out.st.bl; omega)) (fun j hj _ => hj) _ _ H.out.nd)
        have hsz3 := hkp.size
        have hbl3 := H.out.st.bl
        have NPB : v3.heap.size ≠ b := by omega
        have NPL : v3.heap.size ≠ lq := by omega
        have hV3 : (v3.alloc (.cells #[.int .i64 LV, .int .i64 op, .bool false] 119)).heap.size = v3.heap.size + 1 := by simp
        clear bl hkp hrd K1
        have hlt := H.out.lt
        clear H
        unfold opV
        go_wp2_with fail
        generalize v3.alloc (.cells #[.int .i64 LV, .int .i64 op, .bool false] 119) = V3 at *
        generalize v3.heap.size = oq at *
        have KF := Lib.hid (HF.out (k' + 1) V3.drew S3.out.drew.rd (by omega))
        have HG := Lib.hid (good_rd (M := M0) (.row (l + 1)) (ts.drop (k' + 1)))
        generalize rd M0 (.row (l + 1)) (ts.drop (k' + 1)) = oo at KF HE HG
        obtain ⟨p0, p1, p2, -, -, -⟩ := P3.out
        obtain ⟨z0, z1, z2, z3, z4, z5, z6, z7, z8, z9, -, -, -, -, -, -, -, -, -, -⟩ := L3.out
        have hS : V3.drew.cell? ⟨oq, 0, none⟩ = some (.int .i64 LV) ∧ V3.drew.cell? ⟨oq, 1, none⟩ = some (.int .i64 op) ∧ V3.drew.cell? ⟨oq, 2, none⟩ = some (.bool false) := ⟨p0, p1, p2⟩
        refine wp_region_held (S := fun w' : World => w'.cell? ⟨oq, 0, none⟩ = some (.int .i64 LV) ∧ w'.cell? ⟨oq, 1, none⟩ = some (.int .i64 op) ∧ w'.cell? ⟨oq, 2, none⟩ = some (.bool false)) mixed ?_
        change wpAnyH _ _ _ _ _ _ _ _ V3.drew
        refine tk0 (v := ?_) (by kernel_rfl) (by kernel_rfl) (by kernel_rfl) (fun _ _ _ h => h) (Or.inl ⟨by rfl, ?_⟩) hS ?_
        rotate_left
        · (intro w hSw; (try dsimp only at hSw); go_simp; try with_reducible rfl)
        simp only [Act.put, List.setIfInBounds_toArray, List.set_cons_zero, List.set_cons_succ]
        refine tk1 (v := ?_) (by kernel_rfl) (by kernel_rfl) (by kernel_rfl) (fun _ _ _ h => h) (Or.inl ⟨by rfl, ?_⟩) hS ?_
        rotate_left
        · (intro w hSw; (try dsimp only at hSw); go_simp; try with_reducible rfl)
        simp only [Act.put, List.setIfInBounds_toArray, List.set_cons_zero, List.set_cons_succ]
        refine tk3 (v := ?_) (by kernel_rfl) (by kernel_rfl) (by kernel_rfl) (fun _ _ _ h => h) (Or.inl ⟨by rfl, ?_⟩) hS ?_
        rotate_left
        · (intro w hSw; (try dsimp only at hSw); go_simp; try with_reducible rfl)
        simp only [Act.put, List.setIfInBounds_toArray, List.set_cons_zero, List.set_cons_succ]
        refine wpAnyH_ready (rs := [2, 4]) (by kernel_rfl) (by simp) (st2 (fun K hK => ?_) (st4 (fun K hK => ?_) AllReadyH.nil))
        · go_simp
          refine hK.out _ _ ?_ (fun hHeld => ?_)
          · exact hS
          clear hK K
          try simp only [Act.put, List.setIfInBounds_toArray, List.set_cons_zero, List.set_cons_succ]
          refine wpAnyH_ready (rs := [4]) (by kernel_rfl) (by simp) (st4 (fun K hK => ?_) AllReadyH.nil)
          go_simp
          refine KF.out.mono ?_
          cases oo with
          | er E q m =>
            rintro _ v5 ⟨k2, rfl, hkp, hrd, hm⟩
            have S5 := Lib.hid (S3.out.drew.call hkp hrd)
            go_wp2_with fail
            exact bodyPost_panic rfl (PostO.er HE.out.symm rfl hm S5.out)
          | ok m r =>
            rintro _ v5 ⟨_, k2, rfl, ⟨⟨yo, ya, ys, yn, yd, yf, ym, yr, yy, yq, yk, yc⟩, rfl, hy⟩, hkp, hrd, rfl⟩
            have hdr := (Below.refl V3.heap.size V3).drew
            have S5 := Lib.hid (S3.out.drew.call hkp hrd)
            have R5 := Lib.hid ((R3.out.bel hdr).call hkp NB)
            have L5 := Lib.hid ((L3.out.bel hdr).call hkp NLB)
            have P5 := Lib.hid ((P3.out.bel hdr).call hkp NPB)
            have ND5 : Hid (NodeA v5 (fun j => w.heap.size + 1 ≤ j ∧ j ≠ lq) (offs ts En) n ⟨xo, xa, xs, xn, xd, xf, xm, xr, xy, xq, xk, xc⟩) := NodeA.keep (w := V3.drew) hkp.size (fun j hj hj2 => hkp.block j hj2 (by omega)) (fun j hj _ => hj) _ _ (NodeA.bel hdr _ _ ND.out)
            have NM5 : Hid (NodeA v5 (fun j => w.heap.size + 1 ≤ j ∧ j ≠ lq) (offs ts En) m ⟨yo, ya, ys, yn, yd, yf, ym, yr, yy, yq, yk, yc⟩) := NodeA.keep (Nat.le_refl _) (fun _ _ _ => rfl) (fun j (hj : V3.heap.size ≤ j) _ => ⟨by omega, by omega⟩) _ _ hy
            have hsz5 : V3.heap.size ≤ v5.heap.size := hkp.size
            clear hdr hkp hrd hy S3 R3 L3 P3 ND KF
            unfold nv
            go_wp2_with fail
            refine hK.out _ _ ?_ (fun hHeld => ?_)
            · exact ⟨P5.out.c0, P5.out.c1, P5.out.c2⟩
            clear hK K
            try simp only [Act.put, List.setIfInBounds_toArray, List.set_cons_zero, List.set_cons_succ]
            have HE2 := HE.out
            rw [bind_ok] at HE2
            have HG2 := HG.out.len.2 rfl
            simp only [List.length_drop] at HG2
            clear HG HE
            refine wpAnyH_ready (rs := [5]) (by kernel_rfl) (by simp) (st5 (fun K hK => ?_) AllReadyH.nil)
            have KN := Lib.hid (node_any (fun j => w.heap.size + 1 ≤ j ∧ j ≠ lq) (offs ts En) LV op false (ts.length - k) n m ⟨xo, xa, xs, xn, xd, xf, xm, xr, xy, xq, xk, xc⟩ ⟨yo, ya, ys, yn, yd, yf, ym, yr, yy, yq, yk, yc⟩ v5 ND5.out NM5.out (fun j hj => ⟨by omega, by omega⟩))
            rw [← HAT.out] at KN
            unfold opV nv at KN
            go_simp
            refine KN.out.mono ?_
            rintro _ v6 ⟨⟨uo, ua, us, un, ud, uf, um, ur, uy, uq, uk, uc⟩, rfl, hz, hb⟩
            have hsz6 := hb.size
            have S6 := Lib.hid (S5.out.bel hb)
            have R6 := Lib.hid (R5.out.bel hb)
            have L6 := Lib.hid (L5.out.bel hb)
            have P6 := Lib.hid (P5.out.bel hb)
            have NZ := Lib.hid hz
            clear hb hz KN S5 R5 L5 P5 ND5 NM5
            go_wp2_with fail
            refine hK.out _ _ ?_ (fun hHeld => ?_)
            · exact ⟨P6.out.c0, P6.out.c1, P6.out.c2⟩
            clear hK K
            try simp only [Act.put, List.setIfInBounds_toArray, List.set_cons_zero, List.set_cons_succ]
            obtain ⟨z0, z1, z2, z3, z4, z5, z6, z7, z8, z9, m0, m1, m2, m3, m4, m5, m6, m7, m8, m9⟩ := L6.out
            refine wpAnyH_ready (rs := [6]) (by kernel_rfl) (by simp) (st6 (fun K hK => ?_) AllReadyH.nil)
            go_simp
            have P7 := Lib.hid ((((((((((P6.out.other NPL 0 (.int .i64 uo)).other NPL 1 (.int .i64 ua)).other NPL 2 (.string us)).other NPL 3 (.int .i64 un)).other NPL 4 (.int .i64 ud)).other NPL 5 (.bool uf)).other NPL 6 (.int .i64 um)).other NPL 7 (.int .i64 ur)).other NPL 8 (.int .i64 uy)).other NPL 9 (.slice uq uk uc))
            refine hK.out _ _ ?_ (fun hHeld => ?_)
            · exact ⟨P7.out.c0, P7.out.c1, P7.out.c2⟩
            clear hK K
            try simp only [Act.put, List.setIfInBounds_toArray, List.set_cons_zero, List.set_cons_succ]
            refine wpAnyH_done (by kernel_rfl) ?_ _
            go_wp2_with fail
            go_roundg (ts.length - k2)
            case measure => omega
            case rel => exact ⟨k2, .mk op (ts.length - k) [] 0 0 1 [n, m], ⟨uo, ua, us, un, ud, uf, um, ur, uy, uq, uk, uc⟩, Nat.le_refl _, by omega, ⟨((((((((((S6.out.other (by omega) 0 _).other (by omega) 1 _).other (by omega) 2 _).other (by omega) 3 _).other (by omega) 4 _).other (by omega) 5 _).other (by omega) 6 _).other (by omega) 7 _).other (by omega) 8 _).other (by omega) 9 _), ((((((((((R6.out.other (by omega) 0 none _).other (by omega) 1 none _).other (by omega) 2 none _).other (by omega) 3 none _).other (by omega) 4 none _).other (by omega) 5 none _).other (by omega) 6 none _).other (by omega) 7 none _).other (by omega) 8 none _).other (by omega) 9 none _), L6.out.put _ _ _ _ _ _ _ _ _ _, ((((((((((NZ.out.set (fun h => h.2 rfl) 0 _).set (fun h => h.2 rfl) 1 _).set (fun h => h.2 rfl) 2 _).set (fun h => h.2 rfl) 3 _).set (fun h => h.2 rfl) 4 _).set (fun h => h.2 rfl) 5 _).set (fun h => h.2 rfl) 6 _).set (fun h => h.2 rfl) 7 _).set (fun h => h.2 rfl) 8 _).set (fun h => h.2 rfl) 9 _), by omega⟩, HE2⟩
        · go_simp
          refine KF.out.mono ?_
          cases oo with
          | er E q m =>
            rintro _ v5 ⟨k2, rfl, hkp, hrd, hm⟩
            have S5 := Lib.hid (S3.out.drew.call hkp hrd)
            go_wp2_with fail
            exact bodyPost_panic rfl (PostO.er HE.out.symm rfl hm S5.out)
          | ok m r =>
            rintro _ v5 ⟨_, k2, rfl, ⟨⟨yo, ya, ys, yn, yd, yf, ym, yr, yy, yq, yk, yc⟩, rfl, hy⟩, hkp, hrd, rfl⟩
            have hdr := (Below.refl V3.heap.size V3).drew
            have S5 := Lib.hid (S3.out.drew.call hkp hrd)
            have R5 := Lib.hid ((R3.out.bel hdr).call hkp NB)
            have L5 := Lib.hid ((L3.out.bel hdr).call hkp NLB)
            have P5 := Lib.hid ((P3.out.bel hdr).call hkp NPB)
            have ND5 : Hid (NodeA v5 (fun j => w.heap.size + 1 ≤ j ∧ j ≠ lq) (offs ts En) n ⟨xo, xa, xs, xn, xd, xf, xm, xr, xy, xq, xk, xc⟩) := NodeA.keep (w := V3.drew) hkp.size (fun j hj hj2 => hkp.block j hj2 (by omega)) (fun j hj _ => hj) _ _ (NodeA.bel hdr _ _ ND.out)
            have NM5 : Hid (NodeA v5 (fun j => w.heap.size + 1 ≤ j ∧ j ≠ lq) (offs ts En) m ⟨yo, ya, ys, yn, yd, yf, ym, yr, yy, yq, yk, yc⟩) := NodeA.keep (Nat.le_refl _) (fun _ _ _ => rfl) (fun j (hj : V3.heap.size ≤ j) _ => ⟨by omega, by omega⟩) _ _ hy
            have hsz5 : V3.heap.size ≤ v5.heap.size := hkp.size
            clear hdr hkp hrd hy S3 R3 L3 P3 ND KF
            unfold nv
            go_wp2_with fail
            refine hK.out _ _ ?_ (fun hHeld => ?_)
            · exact ⟨P5.out.c0, P5.out.c1, P5.out.c2⟩
            clear hK K
            try simp only [Act.put, List.setIfInBounds_toArray, List.set_cons_zero, List.set_cons_succ]
            clear z0 z1 z2 z3 z4 z5 z6 z7 z8 z9
            obtain ⟨z0, z1, z2, z3, z4, z5, z6, z7, z8, z9, -, -, -, -, -, -, -, -, -, -⟩ := L5.out
            refine wpAnyH_ready (rs := [2]) (by kernel_rfl) (by simp) (st2 (fun K hK => ?_) AllReadyH.nil)
            go_simp
            refine hK.out _ _ ?_ (fun hHeld => ?_)
            · exact ⟨P5.out.c0, P5.out.c1, P5.out.c2⟩
            clear hK K
            try simp only [Act.put, List.setIfInBounds_toArray, List.set_cons_zero, List.set_cons_succ]
            have HE2 := HE.out
            rw [bind_ok] at HE2
            have HG2 := HG.out.len.2 rfl
            simp only [List.length_drop] at HG2
            clear HG HE
            refine wpAnyH_ready (rs := [5]) (by kernel_rfl) (by simp) (st5 (fun K hK => ?_) AllReadyH.nil)
            have KN := Lib.hid (node_any (fun j => w.heap.size + 1 ≤ j ∧ j ≠ lq) (offs ts En) LV op false (ts.length - k) n m ⟨xo, xa, xs, xn, xd, xf, xm, xr, xy, xq, xk, xc⟩ ⟨yo, ya, ys, yn, yd, yf, ym, yr, yy, yq, yk, yc⟩ v5 ND5.out NM5.out (fun j hj => ⟨by omega, by omega⟩))
            rw [← HAT.out] at KN
            unfold opV nv at KN
            go_simp
            refine KN.out.mono ?_
            rintro _ v6 ⟨⟨uo, ua, us, un, ud, uf, um, ur, uy, uq, uk, uc⟩, rfl, hz, hb⟩
            have hsz6 := hb.size
            have S6 := Lib.hid (S5.out.bel hb)
            have R6 := Lib.hid (R5.out.bel hb)
            have L6 := Lib.hid (L5.out.bel hb)
            have P6 := Lib.hid (P5.out.bel hb)
            have NZ := Lib.hid hz
            clear hb hz KN S5 R5 L5 P5 ND5 NM5
            go_wp2_with fail
            refine hK.out _ _ ?_ (fun hHeld => ?_)
            · exact ⟨P6.out.c0, P6.out.c1, P6.out.c2⟩
            clear hK K
            try simp only [Act.put, List.setIfInBounds_toArray, List.set_cons_zero, List.set_cons_succ]
            obtain ⟨z0, z1, z2, z3, z4, z5, z6, z7, z8, z9, m0, m1, m2, m3, m4, m5, m6, m7, m8, m9⟩ := L6.out
            refine wpAnyH_ready (rs := [6]) (by kernel_rfl) (by simp) (st6 (fun K hK => ?_) AllReadyH.nil)
            go_simp
            have P7 := Lib.hid ((((((((((P6.out.other NPL 0 (.int .i64 uo)).other NPL 1 (.int .i64 ua)).other NPL 2 (.string us)).other NPL 3 (.int .i64 un)).other NPL 4 (.int .i64 ud)).other NPL 5 (.bool uf)).other NPL 6 (.int .i64 um)).other NPL 7 (.int .i64 ur)).other NPL 8 (.int .i64 uy)).other NPL 9 (.slice uq uk uc))
            refine hK.out _ _ ?_ (fun hHeld => ?_)
            · exact ⟨P7.out.c0, P7.out.c1, P7.out.c2⟩
            clear hK K
            try simp only [Act.put, List.setIfInBounds_toArray, List.set_cons_zero, List.set_cons_succ]
            refine wpAnyH_done (by kernel_rfl) ?_ _
            go_wp2_with fail
            go_roundg (ts.length - k2)
            case measure => omega
            case rel => exact ⟨k2, .mk op (ts.length - k) [] 0 0 1 [n, m], ⟨uo, ua, us, un, ud, uf, um, ur, uy, uq, uk, uc⟩, Nat.le_refl _, by omega, ⟨((((((((((S6.out.other (by omega) 0 _).other (by omega) 1 _).other (by omega) 2 _).other (by omega) 3 _).other (by omega) 4 _).other (by omega) 5 _).other (by omega) 6 _).other (by omega) 7 _).other (by omega) 8 _).other (by omega) 9 _), ((((((((((R6.out.other (by omega) 0 none _).other (by omega) 1 none _).other (by omega) 2 none _).other (by omega) 3 none _).other (by omega) 4 none _).other (by omega) 5 none _).other (by omega) 6 none _).other (by omega) 7 none _).other (by omega) 8 none _).other (by omega) 9 none _), L6.out.put _ _ _ _ _ _ _ _ _ _, ((((((((((NZ.out.set (fun h => h.2 rfl) 0 _).set (fun h => h.2 rfl) 1 _).set (fun h => h.2 rfl) 2 _).set (fun h => h.2 rfl) 3 _).set (fun h => h.2 rfl) 4 _).set (fun h => h.2 rfl) 5 _).set (fun h => h.2 rfl) 6 _).set (fun h => h.2 rfl) 7 _).set (fun h => h.2 rfl) 8 _).set (fun h => h.2 rfl) 9 _), by omega⟩, HE2⟩
end
end Go.Proofs.YtedbpjcglnkjmaaGreatDoor
namespace Go.Proofs.YtedbpjcglnkjmaaGreatDoor
open Go.RowKit Lx Pa

section
variable {b cap qb En mb k : Nat} {p : Option Addr} {ts : List Tok}
set_option maxRecDepth 100000 in
set_option maxHeartbeats 4000000 in
theorem fac_num (o : Out Tree) (w : World) (h : Rd w b p cap qb ts En mb k) (h2 : (pk ts En k).k = 2) (HK : ∀ w, Rd w b p cap qb ts En mb k → Calls Tryz.prog 153 #[.pointer (some ⟨b, 0, none⟩)] w fun e w' => PostO w b p cap qb ts En mb (vX w.heap.size (offs ts En)) o e w') :
    Calls Tryz.prog 147 #[.pointer (some ⟨b, 0, none⟩)] w fun e w' => PostO w b p cap qb ts En mb (vX w.heap.size (offs ts En)) o e w' := by
  have KR := Lib.hid HK
  clear HK
  have KP := Lib.hid (fun w h => peek_any (b := b) (cap := cap) (qb := qb) (En := En) (mb := mb) (k := k) (p := p) (ts := ts) w h)
  have HAO : Hid ((pk ts En k).a = offs ts En (ts.length - k)) := pk_offs h.kl
  have S0 := Lib.hid ((Sx.start h).alloc (.cells #[.int .i64 0, .int .i64 0, .string ⟨#[]⟩, .int .i64 0, .int .i64 0, .bool false, .int .i64 0, .int .i64 0, .int .i64 0, .slice none 0 0] 36))
  have R0 := Lib.hid (B10.new w (.int .i64 0) (.int .i64 0) (.string ⟨#[]⟩) (.int .i64 0) (.int .i64 0) (.bool false) (.int .i64 0) (.int .i64 0) (.int .i64 0) (.slice none 0 0) 36)
  have NB : w.heap.size ≠ b := by have := h.lt; omega
  have B0 : (w.alloc (.cells #[.int .i64 0, .int .i64 0, .string ⟨#[]⟩, .int .i64 0, .int .i64 0, .bool false, .int .i64 0, .int .i64 0, .int .i64 0, .slice none 0 0] 36)).heap.size = w.heap.size + 1 := by simp
  clear h
  generalize pk ts En k = t at *
  obtain ⟨tk, ta, tt, tn, td⟩ := t
  unfold tokV at KP
  obtain rfl : tk = 2 := h2
  go_enter Tryz.func147, Tryz.ntmps147
  go_wp2_with fail
  change Calls _ _ _ (w.alloc (.cells #[.int .i64 0, .int .i64 0, .string ⟨#[]⟩, .int .i64 0, .int .i64 0, .bool false, .int .i64 0, .int .i64 0, .int .i64 0, .slice none 0 0] 36)) _
  generalize w.alloc (.cells #[.int .i64 0, .int .i64 0, .string ⟨#[]⟩, .int .i64 0, .int .i64 0, .bool false, .int .i64 0, .int .i64 0, .int .i64 0, .slice none 0 0] 36) = V at *
  refine (KP.out _ S0.out.rd).mono ?_
  rintro _ v ⟨rfl, hb⟩
  have S1 := Lib.hid ((S0.out.bel hb).alloc (.cells #[.int .i64 2, .int .i64 ta, .string (bs tt), .int .i64 tn, .int .i64 td] 88))
  have R1 := Lib.hid ((R0.out.bel hb).bel ((Below.refl _ _).alloc (Nat.le_refl _) (.cells #[.int .i64 2, .int .i64 ta, .string (bs tt), .int .i64 tn, .int .i64 td] 88)))
  have X1 := Lib.hid (B5.new v (.int .i64 2) (.int .i64 ta) (.string (bs tt)) (.int .i64 tn) (.int .i64 td) 88)
  have hv := hb.size
  have NB1 : v.heap.size ≠ b := by have h1 := (S0.out.bel hb).kp.size; have h2 := S0.out.bl; omega
  have hv1 : (v.alloc (.cells #[.int .i64 2, .int .i64 ta, .string (bs tt), .int .i64 tn, .int .i64 td] 88)).heap.size = v.heap.size + 1 := by simp
  clear hb S0 R0 KP
  obtain ⟨x0, x1, x2, x3, x4, -, -, -, -, -⟩ := X1.out
  go_wp2_with fail
  clear x0 x1 x2 x3 x4
  change Calls _ _ _ (v.alloc (.cells #[.int .i64 2, .int .i64 ta, .string (bs tt), .int .i64 tn, .int .i64 td] 88)) _
  generalize v.alloc (.cells #[.int .i64 2, .int .i64 ta, .string (bs tt), .int .i64 tn, .int .i64 td] 88) = V1 at *
  refine (KR.out _ S1.out.rd).mono ?_
  cases o with
  | er E q m =>
    rintro _ v2 ⟨k', rfl, hkp, hrd, hm⟩
    have S2 := Lib.hid (S1.out.call hkp hrd)
    go_wp2_with fail
    exact bodyPost_panic rfl (PostO.er rfl rfl hm S2.out)
  | ok t r =>
    rintro _ v2 ⟨_, k', rfl, ⟨⟨xo, xa, xs, xn, xd, xf, xm, xr, xy, xq, xk, xc⟩, rfl, hx⟩, hkp, hrd, rfl⟩
    have S2 := Lib.hid (S1.out.call hkp hrd)
    have R2 := Lib.hid (R1.out.call hkp NB)
    have HN := Lib.hid hx
    clear hkp hrd hx
    unfold nv
    obtain ⟨r0, r1, r2, r3, r4, r5, r6, r7, r8, r9, q0, q1, q2, q3, q4, q5, q6, q7, q8, q9⟩ := R2.out
    go_wp2_with fail
    refine (?_ : ∀ F : World, B10 F w.heap.size (.int .i64 xo) (.int .i64 xa) (.string xs) (.int .i64 xn) (.int .i64 xd) (.bool xf) (.int .i64 xm) (.int .i64 xr) (.int .i64 xy) (.slice xq xk xc) → Sx w F b p cap qb ts En mb k' → Kfr V1.heap.size v2 F → bodyPost _ _ _ _ _ F) _ (R2.out.put _ _ _ _ _ _ _ _ _ _) ?_ ?_
    · intro F hF hS hK
      obtain ⟨y0, y1, y2, y3, y4, y5, y6, y7, y8, y9, -, -, -, -, -, -, -, -, -, -⟩ := hF
      exact bodyPost_ret (v := .agg #[.int .i64 xo, .int .i64 xa, .string xs, .int .i64 xn, .int .i64 xd, .bool xf, .int .i64 xm, .int .i64 xr, .int .i64 xy, .slice xq xk xc]) (by simp [results, Tryz.results147, go_sem, y0, y1, y2, y3, y4, y5, y6, y7, y8, y9]) rfl (PostO.ok rfl ⟨⟨xo, xa, xs, xn, xd, xf, xm, xr, xy, xq, xk, xc⟩, rfl, NodeV.keep hK (by omega) _ _ HN.out⟩ hS)
    · exact ((((((((((S2.out.other (Nat.le_refl _) 0 _).other (Nat.le_refl _) 1 _).other (Nat.le_refl _) 2 _).other (Nat.le_refl _) 3 _).other (Nat.le_refl _) 4 _).other (Nat.le_refl _) 5 _).other (Nat.le_refl _) 6 _).other (Nat.le_refl _) 7 _).other (Nat.le_refl _) 8 _).other (Nat.le_refl _) 9 _)
    · exact (((((((((((Kfr.refl V1.heap.size _).set (by omega) 0 none _).set (by omega) 1 none _).set (by omega) 2 none _).set (by omega) 3 none _).set (by omega) 4 none _).set (by omega) 5 none _).set (by omega) 6 none _).set (by omega) 7 none _).set (by omega) 8 none _).set (by omega) 9 none _)
set_option maxRecDepth 100000 in
set_option maxHeartbeats 6000000 in
theorem fac_br (w : World) (h : Rd w b p cap qb ts En mb k) (h2 : (pk ts En k).k ≠ 2) (hp : isW sLp (ts.drop k) = true) (HX : ∀ (k' : Nat) (w : World), Rd w b p cap qb ts En mb k' → ts.length - k' < ts.length - k → Calls Tryz.prog 57 #[.pointer (some ⟨b, 0, none⟩)] w fun e w' => PostO w b p cap qb ts En mb (vX w.heap.size (offs ts En)) (rd M0 .ex (ts.drop k')) e w') :
    Calls Tryz.prog 147 #[.pointer (some ⟨b, 0, none⟩)] w fun e w' => PostO w b p cap qb ts En mb (vX w.heap.size (offs ts En)) ((rd M0 .ex (ts.drop (k + 1))).bind fun n r => (need sRp r).bind fun _ r => .ok n r) e w' := by
  have hlt : k < ts.length := by
    rcases Nat.lt_or_ge k ts.length with z | z
    · exact z
    · rw [List.drop_eq_nil_of_le z] at hp; cases hp
  have e1 : ((pk ts En k).k == 2) = false := by simpa using h2
  have KB := Lib.hid (fun w h => passes_any (b := b) (cap := cap) (qb := qb) (En := En) (mb := mb) (k := k) (p := p) (ts := ts) sLp (by decide) w h)
  rw [hp, if_pos rfl] at KB
  have KX := Lib.hid HX
  clear HX hp h2
  generalize hO : ((rd M0 .ex (ts.drop (k + 1))).bind fun n r => (need sRp r).bind fun _ r => .ok n r) = O
  have HO := Lib.hid hO
  clear hO
  have KP := Lib.hid (fun w h => peek_any (b := b) (cap := cap) (qb := qb) (En := En) (mb := mb) (k := k) (p := p) (ts := ts) w h)
  have HAO : Hid ((pk ts En k).a = offs ts En (ts.length - k)) := pk_offs h.kl
  have S0 := Lib.hid ((Sx.start h).alloc (.cells #[.int .i64 0, .int .i64 0, .string ⟨#[]⟩, .int .i64 0, .int .i64 0, .bool false, .int .i64 0, .int .i64 0, .int .i64 0, .slice none 0 0] 36))
  have R0 := Lib.hid (B10.new w (.int .i64 0) (.int .i64 0) (.string ⟨#[]⟩) (.int .i64 0) (.int .i64 0) (.bool false) (.int .i64 0) (.int .i64 0) (.int .i64 0) (.slice none 0 0) 36)
  have NB : w.heap.size ≠ b := by have := h.lt; omega
  have B0 : (w.alloc (.cells #[.int .i64 0, .int .i64 0, .string ⟨#[]⟩, .int .i64 0, .int .i64 0, .bool false, .int .i64 0, .int .i64 0, .int .i64 0, .slice none 0 0] 36)).heap.size = w.heap.size + 1 := by simp
  clear h
  generalize pk ts En k = t at *
  obtain ⟨tk, ta, tt, tn, td⟩ := t
  unfold tokV at KP
  simp only at e1
  go_enter Tryz.func147, Tryz.ntmps147
  go_wp2_with fail
  change Calls _ _ _ (w.alloc (.cells #[.int .i64 0, .int .i64 0, .string ⟨#[]⟩, .int .i64 0, .int .i64 0, .bool false, .int .i64 0, .int .i64 0, .int .i64 0, .slice none 0 0] 36)) _
  generalize w.alloc (.cells #[.int .i64 0, .int .i64 0, .string ⟨#[]⟩, .int .i64 0, .int .i64 0, .bool false, .int .i64 0, .int .i64 0, .int .i64 0, .slice none 0 0] 36) = V at *
  refine (KP.out _ S0.out.rd).mono ?_
  rintro _ v ⟨rfl, hb⟩
  have S1 := Lib.hid ((S0.out.bel hb).alloc (.cells #[.int .i64 tk, .int .i64 ta, .string (bs tt), .int .i64 tn, .int .i64 td] 88))
  have R1 := Lib.hid ((R0.out.bel hb).bel ((Below.refl _ _).alloc (Nat.le_refl _) (.cells #[.int .i64 tk, .int .i64 ta, .string (bs tt), .int .i64 tn, .int .i64 td] 88)))
  have X1 := Lib.hid (B5.new v (.int .i64 tk) (.int .i64 ta) (.string (bs tt)) (.int .i64 tn) (.int .i64 td) 88)
  have hv := hb.size
  have NB1 : v.heap.size ≠ b := by have h1 := (S0.out.bel hb).kp.size; have h2 := S0.out.bl; omega
  have hv1 : (v.alloc (.cells #[.int .i64 tk, .int .i64 ta, .string (bs tt), .int .i64 tn, .int .i64 td] 88)).heap.size = v.heap.size + 1 := by simp
  clear hb S0 R0 KP
  obtain ⟨x0, x1, x2, x3, x4, -, -, -, -, -⟩ := X1.out
  go_wp2_with fail
  clear x0 x1 x2 x3 x4
  change Calls _ _ _ (v.alloc (.cells #[.int .i64 tk, .int .i64 ta, .string (bs tt), .int .i64 tn, .int .i64 td] 88)) _
  generalize v.alloc (.cells #[.int .i64 tk, .int .i64 ta, .string (bs tt), .int .i64 tn, .int .i64 td] 88) = V1 at *
  refine (KB.out _ S1.out.rd).mono ?_
  rintro _ v2 ⟨rfl, hkp, hrd⟩
  have S2 := Lib.hid (S1.out.call hkp hrd)
  have R2 := Lib.hid (R1.out.call hkp NB)
  have hsz_v2 := hkp.size
  clear hkp hrd
  clear S1 R1 X1 KB
  go_wp2_with fail
  have KS := Lib.hid (KX.out (k + 1) v2 S2.out.rd (by omega))
  generalize rd M0 .ex (ts.drop (k + 1)) = oo at KS HO
  refine KS.out.mono ?_
  cases oo with
  | er E q m =>
    rintro _ v3 ⟨k', rfl, hkp, hrd, hm⟩
    have SE := Lib.hid (S2.out.call hkp hrd)
    go_wp2_with fail
    exact bodyPost_panic rfl (PostO.er HO.out.symm rfl hm SE.out)
  | ok a r =>
    rintro _ v3 ⟨_, k1, rfl, ⟨⟨xo, xa, xs, xn, xd, xf, xm, xr, xy, xq, xk, xc⟩, rfl, hx⟩, hkp, hrd, rfl⟩
    have S3 := Lib.hid (S2.out.call hkp hrd)
    have R3 := Lib.hid (R2.out.call hkp NB)
    have HN := Lib.hid (hx)
    have hsz_v3 := hkp.size
    have HO2 := HO.out
    rw [bind_ok] at HO2
    replace HO := Lib.hid HO2
    clear HO2 hkp hrd KS
    clear hx S2 R2
    unfold nv
    have bl := (Below.refl v3.heap.size v3).alloc (Nat.le_refl _) (.cells #[.int .i64 xo, .int .i64 xa, .string xs, .int .i64 xn, .int .i64 xd, .bool xf, .int .i64 xm, .int .i64 xr, .int .i64 xy, .slice xq xk xc] 36)
    have S4 := Lib.hid (S3.out.bel bl)
    have R4 := Lib.hid (R3.out.bel bl)
    have X4 := Lib.hid (B10.new v3 (.int .i64 xo) (.int .i64 xa) (.string xs) (.int .i64 xn) (.int .i64 xd) (.bool xf) (.int .i64 xm) (.int .i64 xr) (.int .i64 xy) (.slice xq xk xc) 36)
    replace HN := Lib.hid (NodeA.bel bl _ _ HN.out)
    have NB3 : v3.heap.size ≠ b := by have := S3.out.kp.size; have := S3.out.bl; omega
    clear bl S3 R3
    go_wp2_with fail
    change Calls _ _ _ (v3.alloc (.cells #[.int .i64 xo, .int .i64 xa, .string xs, .int .i64 xn, .int .i64 xd, .bool xf, .int .i64 xm, .int .i64 xr, .int .i64 xy, .slice xq xk xc] 36)) _
    have hv4 : (v3.alloc (.cells #[.int .i64 xo, .int .i64 xa, .string xs, .int .i64 xn, .int .i64 xd, .bool xf, .int .i64 xm, .int .i64 xr, .int .i64 xy, .slice xq xk xc] 36)).heap.size = v3.heap.size + 1 := by simp
    generalize v3.alloc (.cells #[.int .i64 xo, .int .i64 xa, .string xs, .int .i64 xn, .int .i64 xd, .bool xf, .int .i64 xm, .int .i64 xr, .int .i64 xy, .slice xq xk xc] 36) = V4 at *
    have KS := Lib.hid (need_any sRp (by decide) _ S4.out.rd)
    generalize need sRp (ts.drop k1) = oo at KS HO
    refine KS.out.mono ?_
    cases oo with
    | er E q m =>
      rintro _ v5 ⟨k', rfl, hkp, hrd, hm⟩
      have SE := Lib.hid (S4.out.call hkp hrd)
      go_wp2_with fail
      exact bodyPost_panic rfl (PostO.er HO.out.symm rfl hm SE.out)
    | ok a r =>
      rintro _ v5 ⟨_, k2, rfl, rfl, hkp, hrd, rfl⟩
      have S5 := Lib.hid (S4.out.call hkp hrd)
      have R5 := Lib.hid (R4.out.call hkp NB)
      have X5 := Lib.hid (X4.out.call hkp NB3)
      have HM := Lib.hid (NodeA.keep (A' := fun j => v2.heap.size ≤ j) hkp.size (fun j (hj : v2.heap.size ≤ j) hj2 => hkp.block j hj2 (by have := S4.out.bl; omega)) (fun j hj _ => hj) _ _ HN.out)
      have hsz_v5 := hkp.size
      have HO2 := HO.out
      rw [bind_ok] at HO2
      replace HO := Lib.hid HO2
      clear HO2 hkp hrd KS
      clear S4 R4 X4 HN
      obtain ⟨z0, z1, z2, z3, z4, z5, z6, z7, z8, z9, -, -, -, -, -, -, -, -, -, -⟩ := X5.out
      obtain ⟨r0, r1, r2, r3, r4, r5, r6, r7, r8, r9, q0, q1, q2, q3, q4, q5, q6, q7, q8, q9⟩ := R5.out
      go_wp2_with fail
      refine (?_ : ∀ F : World, B10 F w.heap.size (.int .i64 xo) (.int .i64 xa) (.string xs) (.int .i64 xn) (.int .i64 xd) (.bool xf) (.int .i64 xm) (.int .i64 xr) (.int .i64 xy) (.slice xq xk xc) → Sx w F b p cap qb ts En mb k2 → Kfr v2.heap.size v5 F → bodyPost _ _ _ _ _ F) _ (R5.out.put _ _ _ _ _ _ _ _ _ _) ?_ ?_
      · intro F hF hS hK
        obtain ⟨y0, y1, y2, y3, y4, y5, y6, y7, y8, y9, -, -, -, -, -, -, -, -, -, -⟩ := hF
        exact bodyPost_ret (v := .agg #[.int .i64 xo, .int .i64 xa, .string xs, .int .i64 xn, .int .i64 xd, .bool xf, .int .i64 xm, .int .i64 xr, .int .i64 xy, .slice xq xk xc]) (by simp [results, Tryz.results147, go_sem, y0, y1, y2, y3, y4, y5, y6, y7, y8, y9]) rfl (PostO.ok HO.out.symm ⟨⟨xo, xa, xs, xn, xd, xf, xm, xr, xy, xq, xk, xc⟩, rfl, NodeV.keep hK (by omega) _ _ HM.out⟩ hS)
      · exact ((((((((((S5.out.other (Nat.le_refl _) 0 _).other (Nat.le_refl _) 1 _).other (Nat.le_refl _) 2 _).other (Nat.le_refl _) 3 _).other (Nat.le_refl _) 4 _).other (Nat.le_refl _) 5 _).other (Nat.le_refl _) 6 _).other (Nat.le_refl _) 7 _).other (Nat.le_refl _) 8 _).other (Nat.le_refl _) 9 _)
      · exact (((((((((((Kfr.refl v2.heap.size _).set (by omega) 0 none _).set (by omega) 1 none _).set (by omega) 2 none _).set (by omega) 3 none _).set (by omega) 4 none _).set (by omega) 5 none _).set (by omega) 6 none _).set (by omega) 7 none _).set (by omega) 8 none _).set (by omega) 9 none _)
set_option maxRecDepth 100000 in
set_option maxHeartbeats 6000000 in
theorem fac_true (w : World) (h : Rd w b p cap qb ts En mb k) (h2 : (pk ts En k).k ≠ 2) (hp : isW sLp (ts.drop k) = false) (ht : isW kTrue (ts.drop k) = true) :
    Calls Tryz.prog 147 #[.pointer (some ⟨b, 0, none⟩)] w fun e w' => PostO w b p cap qb ts En mb (vX w.heap.size (offs ts En)) (.ok (.mk 17 (ts.length - k) [] 0 0 1 []) (ts.drop (k + 1))) e w' := by
  have e1 : ((pk ts En k).k == 2) = false := by simpa using h2
  have KB := Lib.hid (fun w h => passes_any (b := b) (cap := cap) (qb := qb) (En := En) (mb := mb) (k := k) (p := p) (ts := ts) sLp (by decide) w h)
  rw [hp, if_neg (by simp)] at KB
  have KT := Lib.hid (fun w h => passes_any (b := b) (cap := cap) (qb := qb) (En := En) (mb := mb) (k := k) (p := p) (ts := ts) kTrue (by decide) w h)
  rw [ht, if_pos rfl] at KT
  clear ht
  clear hp h2
  have KP := Lib.hid (fun w h => peek_any (b := b) (cap := cap) (qb := qb) (En := En) (mb := mb) (k := k) (p := p) (ts := ts) w h)
  have HAO : Hid ((pk ts En k).a = offs ts En (ts.length - k)) := pk_offs h.kl
  have S0 := Lib.hid ((Sx.start h).alloc (.cells #[.int .i64 0, .int .i64 0, .string ⟨#[]⟩, .int .i64 0, .int .i64 0, .bool false, .int .i64 0, .int .i64 0, .int .i64 0, .slice none 0 0] 36))
  have R0 := Lib.hid (B10.new w (.int .i64 0) (.int .i64 0) (.string ⟨#[]⟩) (.int .i64 0) (.int .i64 0) (.bool false) (.int .i64 0) (.int .i64 0) (.int .i64 0) (.slice none 0 0) 36)
  have NB : w.heap.size ≠ b := by have := h.lt; omega
  have B0 : (w.alloc (.cells #[.int .i64 0, .int .i64 0, .string ⟨#[]⟩, .int .i64 0, .int .i64 0, .bool false, .int .i64 0, .int .i64 0, .int .i64 0, .slice none 0 0] 36)).heap.size = w.heap.size + 1 := by simp
  clear h
  generalize pk ts En k = t at *
  obtain ⟨tk, ta, tt, tn, td⟩ := t
  unfold tokV at KP
  simp only at e1 HAO
  go_enter Tryz.func147, Tryz.ntmps147
  go_wp2_with fail
  change Calls _ _ _ (w.alloc (.cells #[.int .i64 0, .int .i64 0, .string ⟨#[]⟩, .int .i64 0, .int .i64 0, .bool false, .int .i64 0, .int .i64 0, .int .i64 0, .slice none 0 0] 36)) _
  generalize w.alloc (.cells #[.int .i64 0, .int .i64 0, .string ⟨#[]⟩, .int .i64 0, .int .i64 0, .bool false, .int .i64 0, .int .i64 0, .int .i64 0, .slice none 0 0] 36) = V at *
  refine (KP.out _ S0.out.rd).mono ?_
  rintro _ v ⟨rfl, hb⟩
  have S1 := Lib.hid ((S0.out.bel hb).alloc (.cells #[.int .i64 tk, .int .i64 ta, .string (bs tt), .int .i64 tn, .int .i64 td] 88))
  have R1 := Lib.hid ((R0.out.bel hb).bel ((Below.refl _ _).alloc (Nat.le_refl _) (.cells #[.int .i64 tk, .int .i64 ta, .string (bs tt), .int .i64 tn, .int .i64 td] 88)))
  have X1 := Lib.hid (B5.new v (.int .i64 tk) (.int .i64 ta) (.string (bs tt)) (.int .i64 tn) (.int .i64 td) 88)
  have hv := hb.size
  have NB1 : v.heap.size ≠ b := by have h1 := (S0.out.bel hb).kp.size; have h2 := S0.out.bl; omega
  have hv1 : (v.alloc (.cells #[.int .i64 tk, .int .i64 ta, .string (bs tt), .int .i64 tn, .int .i64 td] 88)).heap.size = v.heap.size + 1 := by simp
  clear hb S0 R0 KP
  obtain ⟨x0, x1, x2, x3, x4, -, -, -, -, -⟩ := X1.out
  go_wp2_with fail
  clear x0 x1 x2 x3 x4
  change Calls _ _ _ (v.alloc (.cells #[.int .i64 tk, .int .i64 ta, .string (bs tt), .int .i64 tn, .int .i64 td] 88)) _
  generalize v.alloc (.cells #[.int .i64 tk, .int .i64 ta, .string (bs tt), .int .i64 tn, .int .i64 td] 88) = V1 at *
  refine (KB.out _ S1.out.rd).mono ?_
  rintro _ v2 ⟨rfl, hkp, hrd⟩
  have S2 := Lib.hid (S1.out.call hkp hrd)
  have R2 := Lib.hid (R1.out.call hkp NB)
  have X2 := Lib.hid (X1.out.call hkp NB1)
  have hsz_v2 := hkp.size
  clear hkp hrd
  clear S1 R1 X1 KB
  go_wp2_with fail
  refine (KT.out _ S2.out.rd).mono ?_
  rintro _ v3 ⟨rfl, hkp, hrd⟩
  have S3 := Lib.hid (S2.out.call hkp hrd)
  have R3 := Lib.hid (R2.out.call hkp NB)
  have X3 := Lib.hid (X2.out.call hkp NB1)
  have hsz_v3 := hkp.size
  clear hkp hrd
  clear S2 R2 X2 KT
  obtain ⟨x0, x1, x2, x3, x4, -, -, -, -, -⟩ := X3.out
  obtain ⟨r0, r1, r2, r3, r4, r5, r6, r7, r8, r9, q0, q1, q2, q3, q4, q5, q6, q7, q8, q9⟩ := R3.out
  go_wp2_with fail
  refine (?_ : ∀ F : World, B10 F w.heap.size (.int .i64 17) (.int .i64 ta) (.string ⟨#[]⟩) (.int .i64 0) (.int .i64 0) (.bool false) (.int .i64 0) (.int .i64 0) (.int .i64 0) (.slice none 0 0) → Sx w F b p cap qb ts En mb (k + 1) → bodyPost _ _ _ _ _ F) _ (R3.out.put _ _ _ _ _ _ _ _ _ _) ?_
  · intro F hF hS
    obtain ⟨y0, y1, y2, y3, y4, y5, y6, y7, y8, y9, -, -, -, -, -, -, -, -, -, -⟩ := hF
    refine bodyPost_ret (v := .agg #[.int .i64 17, .int .i64 ta, .string ⟨#[]⟩, .int .i64 0, .int .i64 0, .bool false, .int .i64 0, .int .i64 0, .int .i64 0, .slice none 0 0]) (by simp [results, Tryz.results147, go_sem, y0, y1, y2, y3, y4, y5, y6, y7, y8, y9]) rfl (PostO.ok rfl ⟨⟨17, ta, ⟨#[]⟩, 0, 0, false, 0, 0, 0, none, 0, 0⟩, rfl, ?_⟩ hS)
    rw [HAO.out]
    exact node_leaf F w.heap.size (offs ts En) 17 (ts.length - k) [] 0 0 1
  · exact ((((((((((S3.out.other (Nat.le_refl _) 0 _).other (Nat.le_refl _) 1 _).other (Nat.le_refl _) 2 _).other (Nat.le_refl _) 3 _).other (Nat.le_refl _) 4 _).other (Nat.le_refl _) 5 _).other (Nat.le_refl _) 6 _).other (Nat.le_refl _) 7 _).other (Nat.le_refl _) 8 _).other (Nat.le_refl _) 9 _)
set_option maxRecDepth 100000 in
set_option maxHeartbeats 6000000 in
theorem fac_call (w : World) (h : Rd w b p cap qb ts En mb k) (h2 : (pk ts En k).k ≠ 2) (hp : isW sLp (ts.drop k) = false) (ht : isW kTrue (ts.drop k) = false) (op : Int) (ho : opAt 6 (pk ts En k).t = some (op, false)) (o : Out Tree) (HK : ∀ w, Rd w b p cap qb ts En mb (k + 1) → Calls Tryz.prog 154 #[.pointer (some ⟨b, 0, none⟩), .int .i64 (offs ts En (ts.length - k)), opV 6 op false] w fun e w' => PostO w b p cap qb ts En mb (vX w.heap.size (offs ts En)) o e w') :
    Calls Tryz.prog 147 #[.pointer (some ⟨b, 0, none⟩)] w fun e w' => PostO w b p cap qb ts En mb (vX w.heap.size (offs ts En)) (o) e w' := by
  have e1 : ((pk ts En k).k == 2) = false := by simpa using h2
  have KB := Lib.hid (fun w h => passes_any (b := b) (cap := cap) (qb := qb) (En := En) (mb := mb) (k := k) (p := p) (ts := ts) sLp (by decide) w h)
  rw [hp, if_neg (by simp)] at KB
  have KT := Lib.hid (fun w h => passes_any (b := b) (cap := cap) (qb := qb) (En := En) (mb := mb) (k := k) (p := p) (ts := ts) kTrue (by decide) w h)
  rw [ht, if_neg (by simp)] at KT
  have KO := Lib.hid (fun w h => oper_yes (b := b) (cap := cap) (qb := qb) (En := En) (mb := mb) (k := k) (p := p) (ts := ts) 6 w h (by decide) op false ho)
  have KR := Lib.hid HK
  clear ht ho HK
  clear hp h2
  have KP := Lib.hid (fun w h => peek_any (b := b) (cap := cap) (qb := qb) (En := En) (mb := mb) (k := k) (p := p) (ts := ts) w h)
  have HAO : Hid ((pk ts En k).a = offs ts En (ts.length - k)) := pk_offs h.kl
  rw [← HAO.out] at KR
  have S0 := Lib.hid ((Sx.start h).alloc (.cells #[.int .i64 0, .int .i64 0, .string ⟨#[]⟩, .int .i64 0, .int .i64 0, .bool false, .int .i64 0, .int .i64 0, .int .i64 0, .slice none 0 0] 36))
  have R0 := Lib.hid (B10.new w (.int .i64 0) (.int .i64 0) (.string ⟨#[]⟩) (.int .i64 0) (.int .i64 0) (.bool false) (.int .i64 0) (.int .i64 0) (.int .i64 0) (.slice none 0 0) 36)
  have NB : w.heap.size ≠ b := by have := h.lt; omega
  have B0 : (w.alloc (.cells #[.int .i64 0, .int .i64 0, .string ⟨#[]⟩, .int .i64 0, .int .i64 0, .bool false, .int .i64 0, .int .i64 0, .int .i64 0, .slice none 0 0] 36)).heap.size = w.heap.size + 1 := by simp
  clear h
  generalize pk ts En k = t at *
  obtain ⟨tk, ta, tt, tn, td⟩ := t
  unfold tokV at KP
  simp only at e1 HAO KR
  go_enter Tryz.func147, Tryz.ntmps147
  go_wp2_with fail
  change Calls _ _ _ (w.alloc (.cells #[.int .i64 0, .int .i64 0, .string ⟨#[]⟩, .int .i64 0, .int .i64 0, .bool false, .int .i64 0, .int .i64 0, .int .i64 0, .slice none 0 0] 36)) _
  generalize w.alloc (.cells #[.int .i64 0, .int .i64 0, .string ⟨#[]⟩, .int .i64 0, .int .i64 0, .bool false, .int .i64 0, .int .i64 0, .int .i64 0, .slice none 0 0] 36) = V at *
  refine (KP.out _ S0.out.rd).mono ?_
  rintro _ v ⟨rfl, hb⟩
  have S1 := Lib.hid ((S0.out.bel hb).alloc (.cells #[.int .i64 tk, .int .i64 ta, .string (bs tt), .int .i64 tn, .int .i64 td] 88))
  have R1 := Lib.hid ((R0.out.bel hb).bel ((Below.refl _ _).alloc (Nat.le_refl _) (.cells #[.int .i64 tk, .int .i64 ta, .string (bs tt), .int .i64 tn, .int .i64 td] 88)))
  have X1 := Lib.hid (B5.new v (.int .i64 tk) (.int .i64 ta) (.string (bs tt)) (.int .i64 tn) (.int .i64 td) 88)
  have hv := hb.size
  have NB1 : v.heap.size ≠ b := by have h1 := (S0.out.bel hb).kp.size; have h2 := S0.out.bl; omega
  have hv1 : (v.alloc (.cells #[.int .i64 tk, .int .i64 ta, .string (bs tt), .int .i64 tn, .int .i64 td] 88)).heap.size = v.heap.size + 1 := by simp
  clear hb S0 R0 KP
  obtain ⟨x0, x1, x2, x3, x4, -, -, -, -, -⟩ := X1.out
  go_wp2_with fail
  clear x0 x1 x2 x3 x4
  change Calls _ _ _ (v.alloc (.cells #[.int .i64 tk, .int .i64 ta, .string (bs tt), .int .i64 tn, .int .i64 td] 88)) _
  generalize v.alloc (.cells #[.int .i64 tk, .int .i64 ta, .string (bs tt), .int .i64 tn, .int .i64 td] 88) = V1 at *
  refine (KB.out _ S1.out.rd).mono ?_
  rintro _ v2 ⟨rfl, hkp, hrd⟩
  have S2 := Lib.hid (S1.out.call hkp hrd)
  have R2 := Lib.hid (R1.out.call hkp NB)
  have X2 := Lib.hid (X1.out.call hkp NB1)
  have hsz_v2 := hkp.size
  clear hkp hrd
  clear S1 R1 X1 KB
  go_wp2_with fail
  refine (KT.out _ S2.out.rd).mono ?_
  rintro _ v3 ⟨rfl, hkp, hrd⟩
  have S3 := Lib.hid (S2.out.call hkp hrd)
  have R3 := Lib.hid (R2.out.call hkp NB)
  have X3 := Lib.hid (X2.out.call hkp NB1)
  have hsz_v3 := hkp.size
  clear hkp hrd
  clear S2 R2 X2 KT
  go_wp2_with fail
  refine (KO.out _ S3.out.rd).mono ?_
  rintro _ v4 ⟨rfl, hkp, hrd⟩
  have S4 := Lib.hid (S3.out.call hkp hrd)
  have R4 := Lib.hid (R3.out.call hkp NB)
  have X4 := Lib.hid (X3.out.call hkp NB1)
  have hsz_v4 := hkp.size
  clear hkp hrd
  clear S3 R3 X3 KO
  have bl := (Below.refl v4.heap.size v4).alloc (Nat.le_refl _) (.cells #[.int .i64 6, .int .i64 op, .bool false] 119)
  have S5 := Lib.hid (S4.out.bel bl)
  have R5 := Lib.hid (R4.out.bel bl)
  have X5 := Lib.hid (X4.out.bel bl)
  have hv5 : (v4.alloc (.cells #[.int .i64 6, .int .i64 op, .bool false] 119)).heap.size = v4.heap.size + 1 := by simp
  unfold opV at KR ⊢
  obtain ⟨x0, x1, x2, x3, x4, -, -, -, -, -⟩ := X5.out
  clear bl S4 R4 X4
  go_wp2_with fail
  clear x0 x1 x2 x3 x4
  change Calls _ _ _ (v4.alloc (.cells #[.int .i64 6, .int .i64 op, .bool false] 119)) _
  generalize v4.alloc (.cells #[.int .i64 6, .int .i64 op, .bool false] 119) = V5 at *
  refine (KR.out _ S5.out.rd).mono ?_
  cases o with
  | er E q m =>
    rintro _ v2 ⟨k', rfl, hkp, hrd, hm⟩
    have S2 := Lib.hid (S5.out.call hkp hrd)
    go_wp2_with fail
    exact bodyPost_panic rfl (PostO.er rfl rfl hm S2.out)
  | ok t r =>
    rintro _ v2 ⟨_, k', rfl, ⟨⟨xo, xa, xs, xn, xd, xf, xm, xr, xy, xq, xk, xc⟩, rfl, hx⟩, hkp, hrd, rfl⟩
    have S2 := Lib.hid (S5.out.call hkp hrd)
    have R2 := Lib.hid (R5.out.call hkp NB)
    have HN := Lib.hid hx
    clear hkp hrd hx
    unfold nv
    obtain ⟨r0, r1, r2, r3, r4, r5, r6, r7, r8, r9, q0, q1, q2, q3, q4, q5, q6, q7, q8, q9⟩ := R2.out
    go_wp2_with fail
    refine (?_ : ∀ F : World, B10 F w.heap.size (.int .i64 xo) (.int .i64 xa) (.string xs) (.int .i64 xn) (.int .i64 xd) (.bool xf) (.int .i64 xm) (.int .i64 xr) (.int .i64 xy) (.slice xq xk xc) → Sx w F b p cap qb ts En mb k' → Kfr V5.heap.size v2 F → bodyPost _ _ _ _ _ F) _ (R2.out.put _ _ _ _ _ _ _ _ _ _) ?_ ?_
    · intro F hF hS hK
      obtain ⟨y0, y1, y2, y3, y4, y5, y6, y7, y8, y9, -, -, -, -, -, -, -, -, -, -⟩ := hF
      exact bodyPost_ret (v := .agg #[.int .i64 xo, .int .i64 xa, .string xs, .int .i64 xn, .int .i64 xd, .bool xf, .int .i64 xm, .int .i64 xr, .int .i64 xy, .slice xq xk xc]) (by simp [results, Tryz.results147, go_sem, y0, y1, y2, y3, y4, y5, y6, y7, y8, y9]) rfl (PostO.ok rfl ⟨⟨xo, xa, xs, xn, xd, xf, xm, xr, xy, xq, xk, xc⟩, rfl, NodeV.keep hK (by omega) _ _ HN.out⟩ hS)
    · exact ((((((((((S2.out.other (Nat.le_refl _) 0 _).other (Nat.le_refl _) 1 _).other (Nat.le_refl _) 2 _).other (Nat.le_refl _) 3 _).other (Nat.le_refl _) 4 _).other (Nat.le_refl _) 5 _).other (Nat.le_refl _) 6 _).other (Nat.le_refl _) 7 _).other (Nat.le_refl _) 8 _).other (Nat.le_refl _) 9 _)
    · exact (((((((((((Kfr.refl V5.heap.size _).set (by omega) 0 none _).set (by omega) 1 none _).set (by omega) 2 none _).set (by omega) 3 none _).set (by omega) 4 none _).set (by omega) 5 none _).set (by omega) 6 none _).set (by omega) 7 none _).set (by omega) 8 none _).set (by omega) 9 none _)
end
end Go.Proofs.YtedbpjcglnkjmaaGreatDoor
namespace Go.Proofs.YtedbpjcglnkjmaaGreatDoor
open Go.RowKit Lx Pa

section
variable {b cap qb En mb : Nat} {p : Option Addr} {ts : List Tok}
theorem cmp_pk {pl k : Nat} {n : Tree} (hk : TokOk ts) : rd M0 (.loop 3 pl n) (ts.drop k) = match opAt 3 (pk ts En k).t with
    | none => .ok n (ts.drop k)
    | some (o, e) => (rd M0 (.row 4) (ts.drop (k + 1))).bind fun m r => .ok (.mk o pl [] 0 0 1 (if e = true then [m, n] else [n, m])) r := by
  rw [rd_eq]
  simp only [Pa.step]
  rw [show (3 : Int) = lv 3 from rfl, opAt_lv 3 (by decide)]
  unfold which
  rw [which_pk (En := En) hk (signs 3) 0 (by decide), List.tail_drop]
  cases idx (signs 3) (pk ts En k).t with
  | none => rfl
  | some i => simp
theorem not_pk {k : Nat} : rd M0 (.row 2) (ts.drop k) = if isW kNot (ts.drop k) = true then (rd M0 (.row 2) (ts.drop (k + 1))).bind fun n r => .ok (.mk 15 (ts.length - k) [] 0 0 1 [n]) r else rd M0 (.row 3) (ts.drop k) := by
  rw [rd_eq]
  simp only [Pa.step]
  rw [if_neg (by decide), if_pos trivial, List.tail_drop, List.length_drop]
theorem ex_pk {k : Nat} : rd M0 .ex (ts.drop k) = if isW kIf (ts.drop k) = true then
    (rd M0 .ex (ts.drop (k + 1))).bind fun a r1 => (need kThen r1).bind fun _ r2 => (rd M0 .ex r2).bind fun b r3 => (need kElse r3).bind fun _ r4 => (rd M0 .ex r4).bind fun c r5 => .ok (.mk 16 (ts.length - k) [] 0 0 1 [a, b, c]) r5 else rd M0 (.row 0) (ts.drop k) := by
  rw [rd_eq]
  simp only [Pa.step]
  rw [List.tail_drop, List.length_drop]
set_option maxRecDepth 100000 in
set_option maxHeartbeats 4000000 in
theorem not_fwd {k : Nat} (o : Out Tree) (w : World) (h : Rd w b p cap qb ts En mb k) (hw : isW kNot (ts.drop k) = false) (HK : ∀ w, Rd w b p cap qb ts En mb k → Calls Tryz.prog 120 #[.pointer (some ⟨b, 0, none⟩)] w fun e w' => PostO w b p cap qb ts En mb (vX w.heap.size (offs ts En)) o e w') :
    Calls Tryz.prog 108 #[.pointer (some ⟨b, 0, none⟩)] w fun e w' => PostO w b p cap qb ts En mb (vX w.heap.size (offs ts En)) o e w' := by
  have hf := fld_at
  have KR := Lib.hid HK
  have KB := Lib.hid (fun w h => passes_any (b := b) (cap := cap) (qb := qb) (En := En) (mb := mb) (k := k) (p := p) (ts := ts) kNot (by decide) w h)
  rw [hw, if_neg (by simp)] at KB
  clear HK hw
  have KP := Lib.hid (fun w h => peek_any (b := b) (cap := cap) (qb := qb) (En := En) (mb := mb) (k := k) (p := p) (ts := ts) w h)
  have HAO : Hid ((pk ts En k).a = offs ts En (ts.length - k)) := pk_offs h.kl
  have S0 := Lib.hid ((Sx.start h).alloc (.cells #[.int .i64 0, .int .i64 0, .string ⟨#[]⟩, .int .i64 0, .int .i64 0, .bool false, .int .i64 0, .int .i64 0, .int .i64 0, .slice none 0 0] 36))
  have R0 := Lib.hid (B10.new w (.int .i64 0) (.int .i64 0) (.string ⟨#[]⟩) (.int .i64 0) (.int .i64 0) (.bool false) (.int .i64 0) (.int .i64 0) (.int .i64 0) (.slice none 0 0) 36)
  have NB : w.heap.size ≠ b := by have := h.lt; omega
  have B0 : (w.alloc (.cells #[.int .i64 0, .int .i64 0, .string ⟨#[]⟩, .int .i64 0, .int .i64 0, .bool false, .int .i64 0, .int .i64 0, .int .i64 0, .slice none 0 0] 36)).heap.size = w.heap.size + 1 := by simp
  clear h
  generalize pk ts En k = t at *
  obtain ⟨tk, ta, tt, tn, td⟩ := t
  unfold tokV at KP
  go_enter Tryz.func108, Tryz.ntmps108
  go_wp2_with fail
  change Calls _ _ _ (w.alloc (.cells #[.int .i64 0, .int .i64 0, .string ⟨#[]⟩, .int .i64 0, .int .i64 0, .bool false, .int .i64 0, .int .i64 0, .int .i64 0, .slice none 0 0] 36)) _
  generalize w.alloc (.cells #[.int .i64 0, .int .i64 0, .string ⟨#[]⟩, .int .i64 0, .int .i64 0, .bool false, .int .i64 0, .int .i64 0, .int .i64 0, .slice none 0 0] 36) = V at *
  refine (KP.out _ S0.out.rd).mono ?_
  rintro _ v ⟨rfl, hb⟩
  have S1 := Lib.hid (S0.out.bel hb)
  have R1 := Lib.hid (R0.out.bel hb)
  have hv := hb.size
  clear hb S0 R0 KP
  go_wp2_with fail
  refine (KB.out _ S1.out.rd).mono ?_
  rintro _ v1 ⟨rfl, hkp, hrd⟩
  have S2 := Lib.hid (S1.out.call hkp hrd)
  have R2 := Lib.hid (R1.out.call hkp NB)
  have hsz_v1 := hkp.size
  clear hkp hrd
  clear S1 R1 KB
  go_wp2_with fail
  refine (KR.out _ S2.out.rd).mono ?_
  cases o with
  | er E q m =>
    rintro _ v2 ⟨k', rfl, hkp, hrd, hm⟩
    have S2 := Lib.hid (S2.out.call hkp hrd)
    go_wp2_with fail
    exact bodyPost_panic rfl (PostO.er rfl rfl hm S2.out)
  | ok t r =>
    rintro _ v2 ⟨_, k', rfl, ⟨⟨xo, xa, xs, xn, xd, xf, xm, xr, xy, xq, xk, xc⟩, rfl, hx⟩, hkp, hrd, rfl⟩
    have S2 := Lib.hid (S2.out.call hkp hrd)
    have R2 := Lib.hid (R2.out.call hkp NB)
    have HN := Lib.hid hx
    clear hkp hrd hx
    unfold nv
    obtain ⟨r0, r1, r2, r3, r4, r5, r6, r7, r8, r9, q0, q1, q2, q3, q4, q5, q6, q7, q8, q9⟩ := R2.out
    go_wp2_with fail
    refine (?_ : ∀ F : World, B10 F w.heap.size (.int .i64 xo) (.int .i64 xa) (.string xs) (.int .i64 xn) (.int .i64 xd) (.bool xf) (.int .i64 xm) (.int .i64 xr) (.int .i64 xy) (.slice xq xk xc) → Sx w F b p cap qb ts En mb k' → Kfr v1.heap.size v2 F → bodyPost _ _ _ _ _ F) _ (R2.out.put _ _ _ _ _ _ _ _ _ _) ?_ ?_
    · intro F hF hS hK
      obtain ⟨y0, y1, y2, y3, y4, y5, y6, y7, y8, y9, -, -, -, -, -, -, -, -, -, -⟩ := hF
      exact bodyPost_ret (v := .agg #[.int .i64 xo, .int .i64 xa, .string xs, .int .i64 xn, .int .i64 xd, .bool xf, .int .i64 xm, .int .i64 xr, .int .i64 xy, .slice xq xk xc]) (by simp [results, Tryz.results108, go_sem, y0, y1, y2, y3, y4, y5, y6, y7, y8, y9]) rfl (PostO.ok rfl ⟨⟨xo, xa, xs, xn, xd, xf, xm, xr, xy, xq, xk, xc⟩, rfl, NodeV.keep hK (by omega) _ _ HN.out⟩ hS)
    · exact ((((((((((S2.out.other (Nat.le_refl _) 0 _).other (Nat.le_refl _) 1 _).other (Nat.le_refl _) 2 _).other (Nat.le_refl _) 3 _).other (Nat.le_refl _) 4 _).other (Nat.le_refl _) 5 _).other (Nat.le_refl _) 6 _).other (Nat.le_refl _) 7 _).other (Nat.le_refl _) 8 _).other (Nat.le_refl _) 9 _)
    · exact (((((((((((Kfr.refl v1.heap.size _).set (by omega) 0 none _).set (by omega) 1 none _).set (by omega) 2 none _).set (by omega) 3 none _).set (by omega) 4 none _).set (by omega) 5 none _).set (by omega) 6 none _).set (by omega) 7 none _).set (by omega) 8 none _).set (by omega) 9 none _)
set_option maxRecDepth 100000 in
set_option maxHeartbeats 6000000 in
theorem not_yes {k : Nat} (w : World) (h : Rd w b p cap qb ts En mb k) (hw : isW kNot (ts.drop k) = true) (HX : ∀ w, Rd w b p cap qb ts En mb (k + 1) → Calls Tryz.prog 108 #[.pointer (some ⟨b, 0, none⟩)] w fun e w' => PostO w b p cap qb ts En mb (vX w.heap.size (offs ts En)) (rd M0 (.row 2) (ts.drop (k + 1))) e w') :
    Calls Tryz.prog 108 #[.pointer (some ⟨b, 0, none⟩)] w fun e w' => PostO w b p cap qb ts En mb (vX w.heap.size (offs ts En)) ((rd M0 (.row 2) (ts.drop (k + 1))).bind fun n r => .ok (.mk 15 (ts.length - k) [] 0 0 1 [n]) r) e w' := by
  have hf := fld_at
  have KX := Lib.hid HX
  have KB := Lib.hid (fun w h => passes_any (b := b) (cap := cap) (qb := qb) (En := En) (mb := mb) (k := k) (p := p) (ts := ts) kNot (by decide) w h)
  rw [hw, if_pos rfl] at KB
  clear HX hw
  generalize hO : ((rd M0 (.row 2) (ts.drop (k + 1))).bind fun n r => .ok (.mk 15 (ts.length - k) [] 0 0 1 [n]) r : Out Tree) = O
  have HO := Lib.hid hO
  clear hO
  have KP := Lib.hid (fun w h => peek_any (b := b) (cap := cap) (qb := qb) (En := En) (mb := mb) (k := k) (p := p) (ts := ts) w h)
  have HAO : Hid ((pk ts En k).a = offs ts En (ts.length - k)) := pk_offs h.kl
  have S0 := Lib.hid ((Sx.start h).alloc (.cells #[.int .i64 0, .int .i64 0, .string ⟨#[]⟩, .int .i64 0, .int .i64 0, .bool false, .int .i64 0, .int .i64 0, .int .i64 0, .slice none 0 0] 36))
  have R0 := Lib.hid (B10.new w (.int .i64 0) (.int .i64 0) (.string ⟨#[]⟩) (.int .i64 0) (.int .i64 0) (.bool false) (.int .i64 0) (.int .i64 0) (.int .i64 0) (.slice none 0 0) 36)
  have NB : w.heap.size ≠ b := by have := h.lt; omega
  have B0 : (w.alloc (.cells #[.int .i64 0, .int .i64 0, .string ⟨#[]⟩, .int .i64 0, .int .i64 0, .bool false, .int .i64 0, .int .i64 0, .int .i64 0, .slice none 0 0] 36)).heap.size = w.heap.size + 1 := by simp
  clear h
  generalize pk ts En k = t at *
  obtain ⟨tk, ta, tt, tn, td⟩ := t
  unfold tokV at KP
  simp only at HAO
  go_enter Tryz.func108, Tryz.ntmps108
  go_wp2_with fail
  change Calls _ _ _ (w.alloc (.cells #[.int .i64 0, .int .i64 0, .string ⟨#[]⟩, .int .i64 0, .int .i64 0, .bool false, .int .i64 0, .int .i64 0, .int .i64 0, .slice none 0 0] 36)) _
  generalize w.alloc (.cells #[.int .i64 0, .int .i64 0, .string ⟨#[]⟩, .int .i64 0, .int .i64 0, .bool false, .int .i64 0, .int .i64 0, .int .i64 0, .slice none 0 0] 36) = V at *
  refine (KP.out _ S0.out.rd).mono ?_
  rintro _ v ⟨rfl, hb⟩
  have S1 := Lib.hid (S0.out.bel hb)
  have R1 := Lib.hid (R0.out.bel hb)
  have hv := hb.size
  clear hb S0 R0 KP
  go_wp2_with fail
  refine (KB.out _ S1.out.rd).mono ?_
  rintro _ v1 ⟨rfl, hkp, hrd⟩
  have S2 := Lib.hid (S1.out.call hkp hrd)
  have R2 := Lib.hid (R1.out.call hkp NB)
  have hsz_v1 := hkp.size
  clear hkp hrd
  clear S1 R1 KB
  go_wp2_with fail
  have KS := Lib.hid (KX.out v1 S2.out.rd)
  generalize rd M0 (.row 2) (ts.drop (k + 1)) = oo at KS HO 
  refine KS.out.mono ?_
  cases oo with
  | er E q m =>
    rintro _ v3 ⟨k', rfl, hkp, hrd, hm⟩
    have SE := Lib.hid (S2.out.call hkp hrd)
    go_wp2_with fail
    exact bodyPost_panic rfl (PostO.er HO.out.symm rfl hm SE.out)
  | ok a r =>
    rintro _ v3 ⟨_, k1, rfl, ⟨⟨xo, xa, xs, xn, xd, xf, xm, xr, xy, xq, xk, xc⟩, rfl, hx⟩, hkp, hrd, rfl⟩
    have S3 := Lib.hid (S2.out.call hkp hrd)
    have R3 := Lib.hid (R2.out.call hkp NB)
    have HN := Lib.hid (hx)
    have hsz_v3 := hkp.size
    have HO2 := HO.out
    rw [bind_ok] at HO2
    replace HO := Lib.hid HO2
    clear HO2 hkp hrd KS
    clear hx S2 R2
    unfold nv
    obtain ⟨r0, r1, r2, r3, r4, r5, r6, r7, r8, r9, q0, q1, q2, q3, q4, q5, q6, q7, q8, q9⟩ := R3.out
    have bl := (Below.refl v3.heap.size v3).alloc (Nat.le_refl _) (.cells #[.int .i64 xo, .int .i64 xa, .string xs, .int .i64 xn, .int .i64 xd, .bool xf, .int .i64 xm, .int .i64 xr, .int .i64 xy, .slice xq xk xc] 36)
    have S4 := Lib.hid (S3.out.bel bl)
    have HB := Lib.hid (heap_alloc_new v3 (.cells #[.int .i64 xo, .int .i64 xa, .string xs, .int .i64 xn, .int .i64 xd, .bool xf, .int .i64 xm, .int .i64 xr, .int .i64 xy, .slice xq xk xc] 36))
    have hs4 : (v3.alloc (.cells #[.int .i64 xo, .int .i64 xa, .string xs, .int .i64 xn, .int .i64 xd, .bool xf, .int .i64 xm, .int .i64 xr, .int .i64 xy, .slice xq xk xc] 36)).heap.size = v3.heap.size + 1 := by simp
    replace HN := Lib.hid (NodeA.bel bl _ _ HN.out)
    have R4 := Lib.hid (R3.out.bel bl)
    obtain ⟨g0, g1, g2, g3, g4, g5, g6, g7, g8, g9, h0, h1, h2, h3, h4, h5, h6, h7, h8, h9⟩ := R4.out
    clear bl S3
    go_wp2_with fail
    refine (?_ : ∀ F : World, B10 F w.heap.size (.int .i64 15) (.int .i64 ta) (.string ⟨#[]⟩) (.int .i64 0) (.int .i64 0) (.bool false) (.int .i64 0) (.int .i64 0) (.int .i64 0) (.slice (some ⟨v3.heap.size, 0, none⟩) 1 1) → Sx w F b p cap qb ts En mb k1 → Kfr (w.heap.size + 1) (v3.alloc (.cells #[.int .i64 xo, .int .i64 xa, .string xs, .int .i64 xn, .int .i64 xd, .bool xf, .int .i64 xm, .int .i64 xr, .int .i64 xy, .slice xq xk xc] 36)) F → bodyPost _ _ _ _ _ F) _ (R4.out.put _ _ _ _ _ _ _ _ _ _) ((((((((((S4.out.other (Nat.le_refl _) 0 _).other (Nat.le_refl _) 1 _).other (Nat.le_refl _) 2 _).other (Nat.le_refl _) 3 _).other (Nat.le_refl _) 4 _).other (Nat.le_refl _) 5 _).other (Nat.le_refl _) 6 _).other (Nat.le_refl _) 7 _).other (Nat.le_refl _) 8 _).other (Nat.le_refl _) 9 _) (((((((((((Kfr.refl (w.heap.size + 1) _).set (by omega) 0 none _).set (by omega) 1 none _).set (by omega) 2 none _).set (by omega) 3 none _).set (by omega) 4 none _).set (by omega) 5 none _).set (by omega) 6 none _).set (by omega) 7 none _).set (by omega) 8 none _).set (by omega) 9 none _)
    intro F hF hS hK
    obtain ⟨y0, y1, y2, y3, y4, y5, y6, y7, y8, y9, -, -, -, -, -, -, -, -, -, -⟩ := hF
    refine bodyPost_ret (v := .agg #[.int .i64 15, .int .i64 ta, .string ⟨#[]⟩, .int .i64 0, .int .i64 0, .bool false, .int .i64 0, .int .i64 0, .int .i64 0, .slice (some ⟨v3.heap.size, 0, none⟩) 1 1]) (by simp [results, Tryz.results108, go_sem, y0, y1, y2, y3, y4, y5, y6, y7, y8, y9]) rfl (PostO.ok HO.out.symm ⟨⟨15, ta, ⟨#[]⟩, 0, 0, false, 0, 0, 0, some ⟨v3.heap.size, 0, none⟩, 1, 1⟩, rfl, ?_⟩ hS)
    rw [HAO.out]
    refine NodeV.keep hK (Nat.le_succ _) _ _ (node_at (T := 36) [a] [⟨xo, xa, xs, xn, xd, xf, xm, xr, xy, xq, xk, xc⟩] 15 (ts.length - k) 1 rfl (by show _ ≤ v3.heap.size; omega) (fun i h h' => ?_) HB.out)
    obtain rfl : i = 0 := by simp at h; omega
    exact NodeA.keep (Nat.le_refl _) (fun _ _ _ => rfl) (fun j (hj : v1.heap.size ≤ j) _ => (by show _ ≤ j; omega)) _ _ HN.out
set_option maxRecDepth 100000 in
set_option maxHeartbeats 8000000 in
theorem comparison_any {k : Nat} (w : World) (h : Rd w b p cap qb ts En mb k) (HX : ∀ (k' : Nat) (w : World), Rd w b p cap qb ts En mb k' → ts.length - k' ≤ ts.length - k → Calls Tryz.prog 129 #[.pointer (some ⟨b, 0, none⟩)] w fun e w' => PostO w b p cap qb ts En mb (vX w.heap.size (offs ts En)) (rd M0 (.row 4) (ts.drop k')) e w') :
    Calls Tryz.prog 120 #[.pointer (some ⟨b, 0, none⟩)] w fun e w' => PostO w b p cap qb ts En mb (vX w.heap.size (offs ts En)) (rd M0 (.row 3) (ts.drop k)) e w' := by
  rw [rd_row (by decide) (by decide), List.length_drop]
  have hf := fld_at
  have hok := h.ok
  have hbl : b < w.heap.size := h.lt
  have hkl := h.kl
  have KX := Lib.hid HX
  have HG := Lib.hid (good_rd (M := M0) (.row 4) (ts.drop k))
  clear HX
  generalize hO : ((rd M0 (.row (3 + 1)) (ts.drop k)).bind fun n r => rd M0 (.loop 3 (ts.length - k) n) r : Out Tree) = O
  have HO := Lib.hid hO
  clear hO
  have KP := Lib.hid (fun w h => peek_any (b := b) (cap := cap) (qb := qb) (En := En) (mb := mb) (k := k) (p := p) (ts := ts) w h)
  have HAO : Hid ((pk ts En k).a = offs ts En (ts.length - k)) := pk_offs h.kl
  obtain ⟨at0, hat⟩ : ∃ z, z = offs ts En (ts.length - k) := ⟨_, rfl⟩
  rw [← hat] at HAO
  have HAT := Lib.hid hat
  clear hat
  have S0 := Lib.hid ((Sx.start h).alloc (.cells #[.int .i64 0, .int .i64 0, .string ⟨#[]⟩, .int .i64 0, .int .i64 0, .bool false, .int .i64 0, .int .i64 0, .int .i64 0, .slice none 0 0] 36))
  have R0 := Lib.hid (B10.new w (.int .i64 0) (.int .i64 0) (.string ⟨#[]⟩) (.int .i64 0) (.int .i64 0) (.bool false) (.int .i64 0) (.int .i64 0) (.int .i64 0) (.slice none 0 0) 36)
  have NB : w.heap.size ≠ b := by have := h.lt; omega
  have B0 : (w.alloc (.cells #[.int .i64 0, .int .i64 0, .string ⟨#[]⟩, .int .i64 0, .int .i64 0, .bool false, .int .i64 0, .int .i64 0, .int .i64 0, .slice none 0 0] 36)).heap.size = w.heap.size + 1 := by simp
  clear h
  generalize pk ts En k = t at *
  obtain ⟨tk, ta, tt, tn, td⟩ := t
  unfold tokV at KP
  simp only at HAO
  obtain rfl : ta = at0 := HAO.out
  clear HAO
  go_enter Tryz.func120, Tryz.ntmps120
  go_wp2_with fail
  change Calls _ _ _ (w.alloc (.cells #[.int .i64 0, .int .i64 0, .string ⟨#[]⟩, .int .i64 0, .int .i64 0, .bool false, .int .i64 0, .int .i64 0, .int .i64 0, .slice none 0 0] 36)) _
  generalize w.alloc (.cells #[.int .i64 0, .int .i64 0, .string ⟨#[]⟩, .int .i64 0, .int .i64 0, .bool false, .int .i64 0, .int .i64 0, .int .i64 0, .slice none 0 0] 36) = V at *
  refine (KP.out _ S0.out.rd).mono ?_
  rintro _ v ⟨rfl, hb⟩
  have S1 := Lib.hid (S0.out.bel hb)
  have R1 := Lib.hid (R0.out.bel hb)
  have hv := hb.size
  clear hb S0 R0 KP
  go_wp2_with fail
  have KS := Lib.hid (KX.out k v S1.out.rd (Nat.le_refl _))
  generalize rd M0 (.row 4) (ts.drop k) = oo at KS HO HG
  refine KS.out.mono ?_
  cases oo with
  | er E q m =>
    rintro _ v2 ⟨k', rfl, hkp, hrd, hm⟩
    have SE := Lib.hid (S1.out.call hkp hrd)
    go_wp2_with fail
    exact bodyPost_panic rfl (PostO.er HO.out.symm rfl hm SE.out)
  | ok n r =>
    rintro _ v2 ⟨_, k1, rfl, ⟨⟨xo, xa, xs, xn, xd, xf, xm, xr, xy, xq, xk, xc⟩, rfl, hx⟩, hkp, hrd, rfl⟩
    have S2 := Lib.hid (S1.out.call hkp hrd)
    have R2 := Lib.hid (R1.out.call hkp NB)
    have HN := Lib.hid (NodeA.keep (A' := fun j => w.heap.size + 1 ≤ j) (Nat.le_refl _) (fun _ _ _ => rfl) (fun j (hj : v.heap.size ≤ j) _ => (by show _ ≤ j; omega)) _ _ hx)
    have hsz_v2 := hkp.size
    have HO2 := HO.out
    rw [bind_ok] at HO2
    replace HO := Lib.hid HO2
    clear HO2 hkp hrd KS
    have HG2 := HG.out.len.2 rfl
    simp only [List.length_drop] at HG2
    clear hx S1 R1 HG
    unfold nv
    have bl := (Below.refl v2.heap.size v2).alloc (Nat.le_refl _) (.cells #[.int .i64 xo, .int .i64 xa, .string xs, .int .i64 xn, .int .i64 xd, .bool xf, .int .i64 xm, .int .i64 xr, .int .i64 xy, .slice xq xk xc] 36)
    have S3 := Lib.hid (S2.out.bel bl)
    have R3 := Lib.hid (R2.out.bel bl)
    have X3 := Lib.hid (B10.new v2 (.int .i64 xo) (.int .i64 xa) (.string xs) (.int .i64 xn) (.int .i64 xd) (.bool xf) (.int .i64 xm) (.int .i64 xr) (.int .i64 xy) (.slice xq xk xc) 36)
    replace HN := Lib.hid (NodeA.bel bl _ _ HN.out)
    have NB3 : v2.heap.size ≠ b := by omega
    have hv3 : (v2.alloc (.cells #[.int .i64 xo, .int .i64 xa, .string xs, .int .i64 xn, .int .i64 xd, .bool xf, .int .i64 xm, .int .i64 xr, .int .i64 xy, .slice xq xk xc] 36)).heap.size = v2.heap.size + 1 := by simp
    clear bl S2 R2
    go_wp2_with fail
    generalize v2.alloc (.cells #[.int .i64 xo, .int .i64 xa, .string xs, .int .i64 xn, .int .i64 xd, .bool xf, .int .i64 xm, .int .i64 xr, .int .i64 xy, .slice xq xk xc] 36) = V3 at *
    generalize v2.heap.size = bq at *
    have HO2' := HO.out
    rw [cmp_pk (En := En) hok] at HO2'
    cases hop : opAt 3 (pk ts En k1).t with
    | none =>
      rw [hop] at HO2'
      simp only at HO2'
      have K1 := Lib.hid (oper_no 3 V3 S3.out.rd (by decide) hop)
      clear hop
      refine K1.out.mono ?_
      rintro _ v4 ⟨rfl, hkp, hrd⟩
      have bl := (Below.refl v4.heap.size v4).alloc (Nat.le_refl _) (.cells #[.int .i64 0, .int .i64 0, .bool false] 119)
      have S4 := Lib.hid ((S3.out.call hkp hrd).bel bl)
      have R4 := Lib.hid ((R3.out.call hkp NB).bel bl)
      have X4 := Lib.hid ((X3.out.call hkp NB3).bel bl)
      have HM := Lib.hid (NodeA.bel bl _ _ (NodeA.keep hkp.size (fun j (hj : w.heap.size + 1 ≤ j) hj2 => hkp.block j hj2 (by omega)) (fun j hj _ => hj) _ _ HN.out))
      have hsz4 := hkp.size
      have hv4 : (v4.alloc (.cells #[.int .i64 0, .int .i64 0, .bool false] 119)).heap.size = v4.heap.size + 1 := by simp
      clear bl hkp hrd K1 S3 R3 X3 HN
      unfold opV
      obtain ⟨z0, z1, z2, z3, z4, z5, z6, z7, z8, z9, -, -, -, -, -, -, -, -, -, -⟩ := X4.out
      obtain ⟨r0, r1, r2, r3, r4, r5, r6, r7, r8, r9, q0, q1, q2, q3, q4, q5, q6, q7, q8, q9⟩ := R4.out
      go_wp2_with fail
      refine (?_ : ∀ F : World, B10 F w.heap.size (.int .i64 xo) (.int .i64 xa) (.string xs) (.int .i64 xn) (.int .i64 xd) (.bool xf) (.int .i64 xm) (.int .i64 xr) (.int .i64 xy) (.slice xq xk xc) → Sx w F b p cap qb ts En mb k1 → Kfr (w.heap.size + 1) (v4.alloc (.cells #[.int .i64 0, .int .i64 0, .bool false] 119)) F → bodyPost _ _ _ _ _ F) _ (R4.out.put _ _ _ _ _ _ _ _ _ _) ?_ ?_
      · intro F hF hS hK
        obtain ⟨y0, y1, y2, y3, y4, y5, y6, y7, y8, y9, -, -, -, -, -, -, -, -, -, -⟩ := hF
        exact bodyPost_ret (v := .agg #[.int .i64 xo, .int .i64 xa, .string xs, .int .i64 xn, .int .i64 xd, .bool xf, .int .i64 xm, .int .i64 xr, .int .i64 xy, .slice xq xk xc]) (by simp [results, Tryz.results120, go_sem, y0, y1, y2, y3, y4, y5, y6, y7, y8, y9]) rfl (PostO.ok HO2'.symm ⟨⟨xo, xa, xs, xn, xd, xf, xm, xr, xy, xq, xk, xc⟩, rfl, NodeV.keep hK (by omega) _ _ HM.out⟩ hS)
      · exact ((((((((((S4.out.other (Nat.le_refl _) 0 _).other (Nat.le_refl _) 1 _).other (Nat.le_refl _) 2 _).other (Nat.le_refl _) 3 _).other (Nat.le_refl _) 4 _).other (Nat.le_refl _) 5 _).other (Nat.le_refl _) 6 _).other (Nat.le_refl _) 7 _).other (Nat.le_refl _) 8 _).other (Nat.le_refl _) 9 _)
      · exact (((((((((((Kfr.refl (w.heap.size + 1) _).set (by omega) 0 none _).set (by omega) 1 none _).set (by omega) 2 none _).set (by omega) 3 none _).set (by omega) 4 none _).set (by omega) 5 none _).set (by omega) 6 none _).set (by omega) 7 none _).set (by omega) 8 none _).set (by omega) 9 none _)
    | some oe =>
      obtain ⟨op, ex⟩ := oe
      rw [hop] at HO2'
      simp only at HO2'
      have K1 := Lib.hid (oper_yes 3 V3 S3.out.rd (by decide) op ex hop)
      clear hop
      refine K1.out.mono ?_
      rintro _ v4 ⟨rfl, hkp, hrd⟩
      have bl := (Below.refl v4.heap.size v4).alloc (Nat.le_refl _) (.cells #[.int .i64 3, .int .i64 op, .bool ex] 119)
      have S4 := Lib.hid ((S3.out.call hkp hrd).bel bl)
      have R4 := Lib.hid ((R3.out.call hkp NB).bel bl)
      have X4 := Lib.hid ((X3.out.call hkp NB3).bel bl)
      have HM := Lib.hid (NodeA.bel bl _ _ (NodeA.keep hkp.size (fun j (hj : w.heap.size + 1 ≤ j) hj2 => hkp.block j hj2 (by omega)) (fun j hj _ => hj) _ _ HN.out))
      have hsz4 := hkp.size
      have hv4 : (v4.alloc (.cells #[.int .i64 3, .int .i64 op, .bool ex] 119)).heap.size = v4.heap.size + 1 := by simp
      have P4 := Lib.hid (B3.new v4 (.int .i64 3) (.int .i64 op) (.bool ex) 119)
      have NPB : v4.heap.size ≠ b := by omega
      clear bl hkp hrd K1 S3 R3 X3 HN
      unfold opV
      go_wp2_with fail
      generalize v4.alloc (.cells #[.int .i64 3, .int .i64 op, .bool ex] 119) = V4 at *
      generalize v4.heap.size = oq at *
      have KF := Lib.hid (KX.out (k1 + 1) V4.drew S4.out.drew.rd (by omega))
      generalize rd M0 (.row 4) (ts.drop (k1 + 1)) = oo at KF HO2'
      obtain ⟨p0, p1, p2, -, -, -⟩ := P4.out
      obtain ⟨z0, z1, z2, z3, z4, z5, z6, z7, z8, z9, -, -, -, -, -, -, -, -, -, -⟩ := X4.out
      have hS : V4.drew.cell? ⟨oq, 0, none⟩ = some (.int .i64 3) ∧ V4.drew.cell? ⟨oq, 1, none⟩ = some (.int .i64 op) ∧ V4.drew.cell? ⟨oq, 2, none⟩ = some (.bool ex) ∧ V4.drew.cell? ⟨bq, 0, none⟩ = some (.int .i64 xo) ∧ V4.drew.cell? ⟨bq, 1, none⟩ = some (.int .i64 xa) ∧ V4.drew.cell? ⟨bq, 2, none⟩ = some (.string xs) ∧ V4.drew.cell? ⟨bq, 3, none⟩ = some (.int .i64 xn) ∧ V4.drew.cell? ⟨bq, 4, none⟩ = some (.int .i64 xd) ∧ V4.drew.cell? ⟨bq, 5, none⟩ = some (.bool xf) ∧ V4.drew.cell? ⟨bq, 6, none⟩ = some (.int .i64 xm) ∧ V4.drew.cell? ⟨bq, 7, none⟩ = some (.int .i64 xr) ∧ V4.drew.cell? ⟨bq, 8, none⟩ = some (.int .i64 xy) ∧ V4.drew.cell? ⟨bq, 9, none⟩ = some (.slice xq xk xc) := ⟨p0, p1, p2, z0, z1, z2, z3, z4, z5, z6, z7, z8, z9⟩
      refine wp_region_held (S := fun w' : World => w'.cell? ⟨oq, 0, none⟩ = some (.int .i64 3) ∧ w'.cell? ⟨oq, 1, none⟩ = some (.int .i64 op) ∧ w'.cell? ⟨oq, 2, none⟩ = some (.bool ex) ∧ w'.cell? ⟨bq, 0, none⟩ = some (.int .i64 xo) ∧ w'.cell? ⟨bq, 1, none⟩ = some (.int .i64 xa) ∧ w'.cell? ⟨bq, 2, none⟩ = some (.string xs) ∧ w'.cell? ⟨bq, 3, none⟩ = some (.int .i64 xn) ∧ w'.cell? ⟨bq, 4, none⟩ = some (.int .i64 xd) ∧ w'.cell? ⟨bq, 5, none⟩ = some (.bool xf) ∧ w'.cell? ⟨bq, 6, none⟩ = some (.int .i64 xm) ∧ w'.cell? ⟨bq, 7, none⟩ = some (.int .i64 xr) ∧ w'.cell? ⟨bq, 8, none⟩ = some (.int .i64 xy) ∧ w'.cell? ⟨bq, 9, none⟩ = some (.slice xq xk xc)) mixed ?_
      change wpAnyH _ _ _ _ _ _ _ _ V4.drew
      refine tk0 (v := ?_) (by kernel_rfl) (by kernel_rfl) (by kernel_rfl) (fun _ _ _ h => h) (Or.inl ⟨by rfl, ?_⟩) hS ?_
      rotate_left
      · (intro w hSw; (try dsimp only at hSw); go_simp; try with_reducible rfl)
      simp only [Act.put, List.setIfInBounds_toArray, List.set_cons_zero, List.set_cons_succ]
      refine tk1 (v := ?_) (by kernel_rfl) (by kernel_rfl) (by kernel_rfl) (fun _ _ _ h => h) (Or.inl ⟨by rfl, ?_⟩) hS ?_
      rotate_left
      · (intro w hSw; (try dsimp only at hSw); go_simp; try with_reducible rfl)
      simp only [Act.put, List.setIfInBounds_toArray, List.set_cons_zero, List.set_cons_succ]
      refine tk2 (v := ?_) (by kernel_rfl) (by kernel_rfl) (by kernel_rfl) (fun _ _ _ h => h) (Or.inl ⟨by rfl, ?_⟩) hS ?_
      rotate_left
      · (intro w hSw; (try dsimp only at hSw); go_simp; try with_reducible rfl)
      simp only [Act.put, List.setIfInBounds_toArray, List.set_cons_zero, List.set_cons_succ]
      refine tk3 (v := ?_) (by kernel_rfl) (by kernel_rfl) (by kernel_rfl) (fun _ _ _ h => h) (Or.inl ⟨by rfl, ?_⟩) hS ?_
      rotate_left
      · (intro w hSw; (try dsimp only at hSw); go_simp; try with_reducible rfl)
      simp only [Act.put, List.setIfInBounds_toArray, List.set_cons_zero, List.set_cons_succ]
      refine wpAnyH_ready (rs := [4]) (by kernel_rfl) (by simp) (st4 (fun K hK => ?_) AllReadyH.nil)
      go_simp
      refine KF.out.mono ?_
      cases oo with
      | er E q m =>
        rintro _ v5 ⟨k2, rfl, hkp, hrd, hm⟩
        have S5 := Lib.hid (S4.out.drew.call hkp hrd)
        go_wp2_with fail
        exact bodyPost_panic rfl (PostO.er HO2'.symm rfl hm S5.out)
      | ok m r =>
        rintro _ v5 ⟨_, k2, rfl, ⟨⟨yo, ya, ys, yn, yd, yf, ym, yr, yy, yq, yk, yc⟩, rfl, hy⟩, hkp, hrd, rfl⟩
        have hdr := (Below.refl V4.heap.size V4).drew
        have S5 := Lib.hid (S4.out.drew.call hkp hrd)
        have R5 := Lib.hid ((R4.out.bel hdr).call hkp NB)
        have X5 := Lib.hid ((X4.out.bel hdr).call hkp NB3)
        have P5 := Lib.hid ((P4.out.bel hdr).call hkp NPB)
        have ND5 : Hid (NodeA v5 (fun j => w.heap.size + 1 ≤ j) (offs ts En) n ⟨xo, xa, xs, xn, xd, xf, xm, xr, xy, xq, xk, xc⟩) := NodeA.keep (w := V4.drew) hkp.size (fun j (hj : w.heap.size + 1 ≤ j) hj2 => hkp.block j hj2 (by omega)) (fun j hj _ => hj) _ _ (NodeA.bel hdr _ _ HM.out)
        have NM5 : Hid (NodeA v5 (fun j => w.heap.size + 1 ≤ j) (offs ts En) m ⟨yo, ya, ys, yn, yd, yf, ym, yr, yy, yq, yk, yc⟩) := NodeA.keep (Nat.le_refl _) (fun _ _ _ => rfl) (fun j (hj : V4.heap.size ≤ j) _ => (by show _ ≤ j; omega)) _ _ hy
        have hsz5 : V4.heap.size ≤ v5.heap.size := hkp.size
        rw [bind_ok] at HO2'
        clear hdr hkp hrd hy S4 R4 X4 P4 HM KF
        unfold nv
        go_wp2_with fail
        refine hK.out _ _ ?_ (fun hHeld => ?_)
        · exact ⟨P5.out.c0, P5.out.c1, P5.out.c2, X5.out.c0, X5.out.c1, X5.out.c2, X5.out.c3, X5.out.c4, X5.out.c5, X5.out.c6, X5.out.c7, X5.out.c8, X5.out.c9⟩
        clear hK K
        try simp only [Act.put, List.setIfInBounds_toArray, List.set_cons_zero, List.set_cons_succ]
        refine wpAnyH_ready (rs := [5]) (by kernel_rfl) (by simp) (st5 (fun K hK => ?_) AllReadyH.nil)
        have KN := Lib.hid (node_any (fun j => w.heap.size + 1 ≤ j) (offs ts En) 3 op ex (ts.length - k) n m ⟨xo, xa, xs, xn, xd, xf, xm, xr, xy, xq, xk, xc⟩ ⟨yo, ya, ys, yn, yd, yf, ym, yr, yy, yq, yk, yc⟩ v5 ND5.out NM5.out (fun j hj => (by show _ ≤ j; omega)))
        rw [← HAT.out] at KN
        unfold opV nv at KN
        go_simp
        refine KN.out.mono ?_
        rintro _ v6 ⟨⟨uo, ua, us, un, ud, uf, um, ur, uy, uq, uk, uc⟩, rfl, hz, hb⟩
        have hsz6 := hb.size
        have S6 := Lib.hid (S5.out.bel hb)
        have R6 := Lib.hid (R5.out.bel hb)
        have X6 := Lib.hid (X5.out.bel hb)
        have P6 := Lib.hid (P5.out.bel hb)
        have NZ := Lib.hid hz
        clear hb hz KN S5 R5 X5 P5 ND5 NM5
        go_wp2_with fail
        refine hK.out _ _ ?_ (fun hHeld => ?_)
        · exact ⟨P6.out.c0, P6.out.c1, P6.out.c2, X6.out.c0, X6.out.c1, X6.out.c2, X6.out.c3, X6.out.c4, X6.out.c5, X6.out.c6, X6.out.c7, X6.out.c8, X6.out.c9⟩
        clear hK K
        try simp only [Act.put, List.setIfInBounds_toArray, List.set_cons_zero, List.set_cons_succ]
        obtain ⟨r0, r1, r2, r3, r4, r5, r6, r7, r8, r9, q0, q1, q2, q3, q4, q5, q6, q7, q8, q9⟩ := R6.out
        have NPR : oq ≠ w.heap.size := by omega
        have NXR : bq ≠ w.heap.size := by omega
        refine wpAnyH_ready (rs := [6]) (by kernel_rfl) (by simp) (st6 (fun K hK => ?_) AllReadyH.nil)
        go_simp
        have P7 := Lib.hid ((((((((((P6.out.other NPR 0 (.int .i64 uo)).other NPR 1 (.int .i64 ua)).other NPR 2 (.string us)).other NPR 3 (.int .i64 un)).other NPR 4 (.int .i64 ud)).other NPR 5 (.bool uf)).other NPR 6 (.int .i64 um)).other NPR 7 (.int .i64 ur)).other NPR 8 (.int .i64 uy)).other NPR 9 (.slice uq uk uc))
        have X7 := Lib.hid ((((((((((X6.out.other NXR 0 none (.int .i64 uo)).other NXR 1 none (.int .i64 ua)).other NXR 2 none (.string us)).other NXR 3 none (.int .i64 un)).other NXR 4 none (.int .i64 ud)).other NXR 5 none (.bool uf)).other NXR 6 none (.int .i64 um)).other NXR 7 none (.int .i64 ur)).other NXR 8 none (.int .i64 uy)).other NXR 9 none (.slice uq uk uc))
        refine hK.out _ _ ?_ (fun hHeld => ?_)
        · exact ⟨P7.out.c0, P7.out.c1, P7.out.c2, X7.out.c0, X7.out.c1, X7.out.c2, X7.out.c3, X7.out.c4, X7.out.c5, X7.out.c6, X7.out.c7, X7.out.c8, X7.out.c9⟩
        clear hK K
        try simp only [Act.put, List.setIfInBounds_toArray, List.set_cons_zero, List.set_cons_succ]
        refine wpAnyH_done (by kernel_rfl) ?_ _
        go_wp2_with fail
        refine (?_ : ∀ F : World, B10 F w.heap.size (.int .i64 uo) (.int .i64 ua) (.string us) (.int .i64 un) (.int .i64 ud) (.bool uf) (.int .i64 um) (.int .i64 ur) (.int .i64 uy) (.slice uq uk uc) → Sx w F b p cap qb ts En mb k2 → Kfr (w.heap.size + 1) v6 F → bodyPost _ _ _ _ _ F) _ (R6.out.put _ _ _ _ _ _ _ _ _ _) ?_ ?_
        · intro F hF hS hK
          obtain ⟨y0, y1, y2, y3, y4, y5, y6, y7, y8, y9, -, -, -, -, -, -, -, -, -, -⟩ := hF
          exact bodyPost_ret (v := .agg #[.int .i64 uo, .int .i64 ua, .string us, .int .i64 un, .int .i64 ud, .bool uf, .int .i64 um, .int .i64 ur, .int .i64 uy, .slice uq uk uc]) (by simp [results, Tryz.results120, go_sem, y0, y1, y2, y3, y4, y5, y6, y7, y8, y9]) rfl (PostO.ok HO2'.symm ⟨⟨uo, ua, us, un, ud, uf, um, ur, uy, uq, uk, uc⟩, rfl, NodeV.keep hK (by omega) _ _ NZ.out⟩ hS)
        · exact ((((((((((S6.out.other (Nat.le_refl _) 0 _).other (Nat.le_refl _) 1 _).other (Nat.le_refl _) 2 _).other (Nat.le_refl _) 3 _).other (Nat.le_refl _) 4 _).other (Nat.le_refl _) 5 _).other (Nat.le_refl _) 6 _).other (Nat.le_refl _) 7 _).other (Nat.le_refl _) 8 _).other (Nat.le_refl _) 9 _)
        · exact (((((((((((Kfr.refl (w.heap.size + 1) _).set (by omega) 0 none _).set (by omega) 1 none _).set (by omega) 2 none _).set (by omega) 3 none _).set (by omega) 4 none _).set (by omega) 5 none _).set (by omega) 6 none _).set (by omega) 7 none _).set (by omega) 8 none _).set (by omega) 9 none _)
end
end Go.Proofs.YtedbpjcglnkjmaaGreatDoor
