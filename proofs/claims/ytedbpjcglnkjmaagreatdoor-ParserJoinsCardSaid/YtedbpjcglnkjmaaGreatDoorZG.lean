/-
  Contracts of the parser: expr, call, and a factor that is a name.
  Contracts of the parser: call, and a factor that is a name.
  Contracts of the parser: methods that hand another one's answer on: or, and, sum, term.
  The contract of expr, whatever the tokens: all methods that read expressions together, by how many tokens are left.
  Contracts of the parser: measure, hold.
-/
import Derived.Test.YtedbpjcglnkjmaaGreatDoorZF
import Derived.Test.YtedbpjcglnkjmaaGreatDoorZE
namespace Go.Proofs.YtedbpjcglnkjmaaGreatDoor
open Go.RowKit Lx Pa

section
variable {b cap qb En mb : Nat} {p : Option Addr} {ts : List Tok}
theorem len_ex (k k1 : Nat) (n : Tree) (h : rd M0 .ex (ts.drop k) = .ok n (ts.drop k1)) : ts.length - k1 < ts.length - k := by
  have g := good_rd (M := M0) .ex (ts.drop k)
  rw [h] at g
  have := g.len.2 rfl
  simpa [List.length_drop] using this
theorem len_need (s : List UInt8) (k k1 : Nat) (u : Unit) (h : need s (ts.drop k) = .ok u (ts.drop k1)) : ts.length - k1 < ts.length - k := by
  unfold need at h
  split at h
  · rename_i hw
    obtain ⟨t, r, e⟩ := isW_cons hw
    have hl : 0 < (ts.drop k).length := by rw [e]; simp
    rw [List.length_drop] at hl
    injection h with _ h
    have := congrArg List.length h
    simp only [List.length_tail, List.length_drop] at this
    omega
  · cases h
set_option maxRecDepth 100000 in
set_option maxHeartbeats 4000000 in
theorem expr_fwd {k : Nat} (o : Out Tree) (w : World) (h : Rd w b p cap qb ts En mb k) (hw : isW kIf (ts.drop k) = false) (HK : ∀ w, Rd w b p cap qb ts En mb k → Calls Tryz.prog 77 #[.pointer (some ⟨b, 0, none⟩)] w fun e w' => PostO w b p cap qb ts En mb (vX w.heap.size (offs ts En)) o e w') :
    Calls Tryz.prog 57 #[.pointer (some ⟨b, 0, none⟩)] w fun e w' => PostO w b p cap qb ts En mb (vX w.heap.size (offs ts En)) o e w' := by
  have hf := fld_at
  have KR := Lib.hid HK
  have KB := Lib.hid (fun w h => passes_any (b := b) (cap := cap) (qb := qb) (En := En) (mb := mb) (k := k) (p := p) (ts := ts) kIf (by decide) w h)
  rw [hw, if_neg (by simp)] at KB
  clear HK hw
  have KP := Lib.hid (fun w h => peek_any (b := b) (cap := cap) (qb := qb) (En := En) (mb := mb) (k := k) (p := p) (ts := ts) w h)
  have HAO : Hid ((pk ts En k).a = offs ts En (ts.length - k)) := pk_offs h.kl
  have S0 := Lib.hid ((Sx.start h).alloc (.cells #[.int .i64 0, .int .i64 0, .string ⟨#[]⟩, .int .i64 0, .int .i64 0, .bool false, .int .i64 0, .int .i64 0, .int .i64 0, .slice none 0 0] 36))
  have R0 := Lib.hid (B10.new w (.int .i64 0) (.int .i64 0) (.string ⟨#[]⟩) (.int .i64 0) (.int .i64 0) (.bool false) (.int .i64 0) (.int .i64 0) (.int .i64 0) (.slice none 0 0) 36)
  have NB : w.heap.size ≠ b := by have := h.lt; omega
  have B0 : (w.alloc (.cells #[.int .i64 0, .int .i64 0, .string ⟨#[]⟩, .int .i64 0, .int .i64 0, .bool false, .int .i64 0, .int .i64 0, .int .i64 0, .slice none 0 0] 36)).heap.size = w.heap.size + 1 := by simp
  clear h
  generalize pk ts En k = t at *
  obtain ⟨tk, ta, tt, tn, td⟩ := t
  unfold tokV at KP
  go_enter Tryz.func57, Tryz.ntmps57
  go_wp2_with fail
  change Calls _ _ _ (w.alloc (.cells #[.int .i64 0, .int .i64 0, .string ⟨#[]⟩, .int .i64 0, .int .i64 0, .bool false, .int .i64 0, .int .i64 0, .int .i64 0, .slice none 0 0] 36)) _
  generalize w.alloc (.cells #[.int .i64 0, .int .i64 0, .string ⟨#[]⟩, .int .i64 0, .int .i64 0, .bool false, .int .i64 0, .int .i64 0, .int .i64 0, .slice none 0 0] 36) = V at *
  refine (KP.out _ S0.out.rd).mono ?_
  rintro _ v ⟨rfl, hb⟩
  have S1 := Lib.hid (S0.out.bel hb)
  have R1 := Lib.hid (R0.out.bel hb)
  have hv := hb.size
  clear hb S0 R0 KP
  go_wp2_with fail
  refine (KB.out _ S1.out.rd).mono ?_
  rintro _ v1 ⟨rfl, hkp, hrd⟩
  have S2 := Lib.hid (S1.out.call hkp hrd)
  have R2 := Lib.hid (R1.out.call hkp NB)
  have hsz_v1 := hkp.size
  clear hkp hrd
  clear S1 R1 KB
  go_wp2_with fail
  refine (KR.out _ S2.out.rd).mono ?_
  cases o with
  | er E q m =>
    rintro _ v2 ⟨k', rfl, hkp, hrd, hm⟩
    have S2 := Lib.hid (S2.out.call hkp hrd)
    go_wp2_with fail
    exact bodyPost_panic rfl (PostO.er rfl rfl hm S2.out)
  | ok t r =>
    rintro _ v2 ⟨_, k', rfl, ⟨⟨xo, xa, xs, xn, xd, xf, xm, xr, xy, xq, xk, xc⟩, rfl, hx⟩, hkp, hrd, rfl⟩
    have S2 := Lib.hid (S2.out.call hkp hrd)
    have R2 := Lib.hid (R2.out.call hkp NB)
    have HN := Lib.hid hx
    clear hkp hrd hx
    unfold nv
    obtain ⟨r0, r1, r2, r3, r4, r5, r6, r7, r8, r9, q0, q1, q2, q3, q4, q5, q6, q7, q8, q9⟩ := R2.out
    go_wp2_with fail
    refine (?_ : ∀ F : World, B10 F w.heap.size (.int .i64 xo) (.int .i64 xa) (.string xs) (.int .i64 xn) (.int .i64 xd) (.bool xf) (.int .i64 xm) (.int .i64 xr) (.int .i64 xy) (.slice xq xk xc) → Sx w F b p cap qb ts En mb k' → Kfr v1.heap.size v2 F → bodyPost _ _ _ _ _ F) _ (R2.out.put _ _ _ _ _ _ _ _ _ _) ?_ ?_
    · intro F hF hS hK
      obtain ⟨y0, y1, y2, y3, y4, y5, y6, y7, y8, y9, -, -, -, -, -, -, -, -, -, -⟩ := hF
      exact bodyPost_ret (v := .agg #[.int .i64 xo, .int .i64 xa, .string xs, .int .i64 xn, .int .i64 xd, .bool xf, .int .i64 xm, .int .i64 xr, .int .i64 xy, .slice xq xk xc]) (by simp [results, Tryz.results57, go_sem, y0, y1, y2, y3, y4, y5, y6, y7, y8, y9]) rfl (PostO.ok rfl ⟨⟨xo, xa, xs, xn, xd, xf, xm, xr, xy, xq, xk, xc⟩, rfl, NodeV.keep hK (by omega) _ _ HN.out⟩ hS)
    · exact ((((((((((S2.out.other (Nat.le_refl _) 0 _).other (Nat.le_refl _) 1 _).other (Nat.le_refl _) 2 _).other (Nat.le_refl _) 3 _).other (Nat.le_refl _) 4 _).other (Nat.le_refl _) 5 _).other (Nat.le_refl _) 6 _).other (Nat.le_refl _) 7 _).other (Nat.le_refl _) 8 _).other (Nat.le_refl _) 9 _)
    · exact (((((((((((Kfr.refl v1.heap.size _).set (by omega) 0 none _).set (by omega) 1 none _).set (by omega) 2 none _).set (by omega) 3 none _).set (by omega) 4 none _).set (by omega) 5 none _).set (by omega) 6 none _).set (by omega) 7 none _).set (by omega) 8 none _).set (by omega) 9 none _)
set_option maxRecDepth 100000 in
set_option maxHeartbeats 12000000 in
theorem expr_if {k : Nat} (w : World) (h : Rd w b p cap qb ts En mb k) (hw : isW kIf (ts.drop k) = true) (HX : ∀ (k' : Nat) (w : World), Rd w b p cap qb ts En mb k' → ts.length - k' < ts.length - k → Calls Tryz.prog 57 #[.pointer (some ⟨b, 0, none⟩)] w fun e w' => PostO w b p cap qb ts En mb (vX w.heap.size (offs ts En)) (rd M0 .ex (ts.drop k')) e w') :
    Calls Tryz.prog 57 #[.pointer (some ⟨b, 0, none⟩)] w fun e w' => PostO w b p cap qb ts En mb (vX w.heap.size (offs ts En)) ((rd M0 .ex (ts.drop (k + 1))).bind fun a r1 => (need kThen r1).bind fun _ r2 => (rd M0 .ex r2).bind fun b r3 => (need kElse r3).bind fun _ r4 => (rd M0 .ex r4).bind fun c r5 => .ok (.mk 16 (ts.length - k) [] 0 0 1 [a, b, c]) r5) e w' := by
  have hf := fld_at
  have hbl : b < w.heap.size := h.lt
  have hlt : k < ts.length := by
    rcases Nat.lt_or_ge k ts.length with z | z
    · exact z
    · rw [List.drop_eq_nil_of_le z] at hw; cases hw
  have KX := Lib.hid HX
  have KGL := Lib.hid (len_ex (ts := ts))
  have KNL := Lib.hid (len_need (ts := ts))
  have KB := Lib.hid (fun w h => passes_any (b := b) (cap := cap) (qb := qb) (En := En) (mb := mb) (k := k) (p := p) (ts := ts) kIf (by decide) w h)
  rw [hw, if_pos rfl] at KB
  clear HX hw
  generalize hO : ((rd M0 .ex (ts.drop (k + 1))).bind fun a r1 => (need kThen r1).bind fun _ r2 => (rd M0 .ex r2).bind fun b r3 => (need kElse r3).bind fun _ r4 => (rd M0 .ex r4).bind fun c r5 => .ok (.mk 16 (ts.length - k) [] 0 0 1 [a, b, c]) r5 : Out Tree) = O
  have HO := Lib.hid hO
  clear hO
  have KP := Lib.hid (fun w h => peek_any (b := b) (cap := cap) (qb := qb) (En := En) (mb := mb) (k := k) (p := p) (ts := ts) w h)
  have HAO : Hid ((pk ts En k).a = offs ts En (ts.length - k)) := pk_offs h.kl
  obtain ⟨at0, hat⟩ : ∃ z, z = offs ts En (ts.length - k) := ⟨_, rfl⟩
  rw [← hat] at HAO
  have HAT := Lib.hid hat
  clear hat
  have S0 := Lib.hid ((Sx.start h).alloc (.cells #[.int .i64 0, .int .i64 0, .string ⟨#[]⟩, .int .i64 0, .int .i64 0, .bool false, .int .i64 0, .int .i64 0, .int .i64 0, .slice none 0 0] 36))
  have R0 := Lib.hid (B10.new w (.int .i64 0) (.int .i64 0) (.string ⟨#[]⟩) (.int .i64 0) (.int .i64 0) (.bool false) (.int .i64 0) (.int .i64 0) (.int .i64 0) (.slice none 0 0) 36)
  have NB : w.heap.size ≠ b := by have := h.lt; omega
  have B0 : (w.alloc (.cells #[.int .i64 0, .int .i64 0, .string ⟨#[]⟩, .int .i64 0, .int .i64 0, .bool false, .int .i64 0, .int .i64 0, .int .i64 0, .slice none 0 0] 36)).heap.size = w.heap.size + 1 := by simp
  clear h
  generalize pk ts En k = t at *
  obtain ⟨tk, ta, tt, tn, td⟩ := t
  unfold tokV at KP
  simp only at HAO
  obtain rfl : ta = at0 := HAO.out
  clear HAO
  go_enter Tryz.func57, Tryz.ntmps57
  go_wp2_with fail
  change Calls _ _ _ (w.alloc (.cells #[.int .i64 0, .int .i64 0, .string ⟨#[]⟩, .int .i64 0, .int .i64 0, .bool false, .int .i64 0, .int .i64 0, .int .i64 0, .slice none 0 0] 36)) _
  generalize w.alloc (.cells #[.int .i64 0, .int .i64 0, .string ⟨#[]⟩, .int .i64 0, .int .i64 0, .bool false, .int .i64 0, .int .i64 0, .int .i64 0, .slice none 0 0] 36) = V at *
  refine (KP.out _ S0.out.rd).mono ?_
  rintro _ v ⟨rfl, hb⟩
  have S1 := Lib.hid (S0.out.bel hb)
  have R1 := Lib.hid (R0.out.bel hb)
  have hv := hb.size
  clear hb S0 R0 KP
  go_wp2_with fail
  refine (KB.out _ S1.out.rd).mono ?_
  rintro _ v1 ⟨rfl, hkp, hrd⟩
  have S2 := Lib.hid (S1.out.call hkp hrd)
  have R2 := Lib.hid (R1.out.call hkp NB)
  have hsz_v1 := hkp.size
  clear hkp hrd
  clear S1 R1 KB
  go_wp2_with fail
  have KS := Lib.hid (KX.out (k + 1) v1 S2.out.rd (by omega))
  generalize ho : rd M0 .ex (ts.drop (k + 1)) = oo at KS HO 
  refine KS.out.mono ?_
  cases oo with
  | er E q m =>
    rintro _ v3 ⟨k', rfl, hkp, hrd, hm⟩
    have SE := Lib.hid (S2.out.call hkp hrd)
    go_wp2_with fail
    exact bodyPost_panic rfl (PostO.er HO.out.symm rfl hm SE.out)
  | ok a1 r =>
    rintro _ v3 ⟨_, k1, rfl, ⟨⟨xo, xa, xs, xn, xd, xf, xm, xr, xy, xq, xk, xc⟩, rfl, hx⟩, hkp, hrd, rfl⟩
    have S3 := Lib.hid (S2.out.call hkp hrd)
    have R3 := Lib.hid (R2.out.call hkp NB)
    have N3 := Lib.hid (NodeA.keep (A' := fun j => w.heap.size + 1 ≤ j) (Nat.le_refl _) (fun _ _ _ => rfl) (fun j (hj : v1.heap.size ≤ j) _ => (by show _ ≤ j; omega)) _ _ hx)
    have hsz_v3 := hkp.size
    have HO2 := HO.out
    rw [bind_ok] at HO2
    replace HO := Lib.hid HO2
    clear HO2 hkp hrd KS
    have G1 := KGL.out (k + 1) k1 _ ho
    clear hx S2 R2 ho
    unfold nv
    have hk1 := S3.out.rd.kl
    have bl := (Below.refl v3.heap.size v3).alloc (Nat.le_refl _) (.cells #[.int .i64 xo, .int .i64 xa, .string xs, .int .i64 xn, .int .i64 xd, .bool xf, .int .i64 xm, .int .i64 xr, .int .i64 xy, .slice xq xk xc] 36)
    have S4 := Lib.hid (S3.out.bel bl)
    have R4 := Lib.hid (R3.out.bel bl)
    have N4 := Lib.hid (NodeA.bel bl _ _ N3.out)
    have X4 := Lib.hid (B10.new v3 (.int .i64 xo) (.int .i64 xa) (.string xs) (.int .i64 xn) (.int .i64 xd) (.bool xf) (.int .i64 xm) (.int .i64 xr) (.int .i64 xy) (.slice xq xk xc) 36)
    have hv4 : (v3.alloc (.cells #[.int .i64 xo, .int .i64 xa, .string xs, .int .i64 xn, .int .i64 xd, .bool xf, .int .i64 xm, .int .i64 xr, .int .i64 xy, .slice xq xk xc] 36)).heap.size = v3.heap.size + 1 := by simp
    clear bl S3 R3 N3
    go_wp2_with fail
    generalize v3.alloc (.cells #[.int .i64 xo, .int .i64 xa, .string xs, .int .i64 xn, .int .i64 xd, .bool xf, .int .i64 xm, .int .i64 xr, .int .i64 xy, .slice xq xk xc] 36) = V4 at *
    generalize v3.heap.size = xb at *
    have NBX : xb ≠ b := by omega
    have KS := Lib.hid (need_any kThen (by decide) _ S4.out.rd)
    generalize ho : need kThen (ts.drop k1) = oo at KS HO 
    refine KS.out.mono ?_
    cases oo with
    | er E q m =>
      rintro _ v5 ⟨k', rfl, hkp, hrd, hm⟩
      have SE := Lib.hid (S4.out.call hkp hrd)
      go_wp2_with fail
      exact bodyPost_panic rfl (PostO.er HO.out.symm rfl hm SE.out)
    | ok u r =>
      rintro _ v5 ⟨_, k2, rfl, rfl, hkp, hrd, rfl⟩
      have S5 := Lib.hid (S4.out.call hkp hrd)
      have R5 := Lib.hid (R4.out.call hkp NB)
      have X5 := Lib.hid (X4.out.call hkp NBX)
      have N5 := Lib.hid (NodeA.keep hkp.size (fun j (hj : w.heap.size + 1 ≤ j) hj2 => hkp.block j hj2 (by omega)) (fun j hj _ => hj) _ _ N4.out)
      have hsz_v5 := hkp.size
      have HO2 := HO.out
      rw [bind_ok] at HO2
      replace HO := Lib.hid HO2
      clear HO2 hkp hrd KS
      have G2 := KNL.out _ k1 k2 _ ho
      clear S4 R4 X4 N4 ho
      go_wp2_with fail
      have KS := Lib.hid (KX.out k2 v5 S5.out.rd (by omega))
      generalize ho : rd M0 .ex (ts.drop k2) = oo at KS HO 
      refine KS.out.mono ?_
      cases oo with
      | er E q m =>
        rintro _ v6 ⟨k', rfl, hkp, hrd, hm⟩
        have SE := Lib.hid (S5.out.call hkp hrd)
        go_wp2_with fail
        exact bodyPost_panic rfl (PostO.er HO.out.symm rfl hm SE.out)
      | ok a2 r =>
        rintro _ v6 ⟨_, k3, rfl, ⟨⟨yo, ya, ys, yn, yd, yf, ym, yr, yy, yq, yk, yc⟩, rfl, hx⟩, hkp, hrd, rfl⟩
        have S6 := Lib.hid (S5.out.call hkp hrd)
        have R6 := Lib.hid (R5.out.call hkp NB)
        have X6 := Lib.hid (X5.out.call hkp NBX)
        have N6 := Lib.hid (NodeA.keep hkp.size (fun j (hj : w.heap.size + 1 ≤ j) hj2 => hkp.block j hj2 (by omega)) (fun j hj _ => hj) _ _ N5.out)
        have M6 := Lib.hid (NodeA.keep (A' := fun j => w.heap.size + 1 ≤ j) (Nat.le_refl _) (fun _ _ _ => rfl) (fun j (hj : v5.heap.size ≤ j) _ => (by show _ ≤ j; omega)) _ _ hx)
        have hsz_v6 := hkp.size
        have HO2 := HO.out
        rw [bind_ok] at HO2
        replace HO := Lib.hid HO2
        clear HO2 hkp hrd KS
        have G3 := KGL.out k2 k3 _ ho
        clear hx S5 R5 X5 N5 ho
        unfold nv
        have bl := (Below.refl v6.heap.size v6).alloc (Nat.le_refl _) (.cells #[.int .i64 yo, .int .i64 ya, .string ys, .int .i64 yn, .int .i64 yd, .bool yf, .int .i64 ym, .int .i64 yr, .int .i64 yy, .slice yq yk yc] 36)
        have S6b := Lib.hid (S6.out.bel bl)
        have R6b := Lib.hid (R6.out.bel bl)
        have X6b := Lib.hid (X6.out.bel bl)
        have N6b := Lib.hid (NodeA.bel bl _ _ N6.out)
        have M6b := Lib.hid (NodeA.bel bl _ _ M6.out)
        have Y6b := Lib.hid (B10.new v6 (.int .i64 yo) (.int .i64 ya) (.string ys) (.int .i64 yn) (.int .i64 yd) (.bool yf) (.int .i64 ym) (.int .i64 yr) (.int .i64 yy) (.slice yq yk yc) 36)
        have hv6 : (v6.alloc (.cells #[.int .i64 yo, .int .i64 ya, .string ys, .int .i64 yn, .int .i64 yd, .bool yf, .int .i64 ym, .int .i64 yr, .int .i64 yy, .slice yq yk yc] 36)).heap.size = v6.heap.size + 1 := by simp
        clear bl S6 R6 X6 N6 M6
        go_wp2_with fail
        generalize v6.alloc (.cells #[.int .i64 yo, .int .i64 ya, .string ys, .int .i64 yn, .int .i64 yd, .bool yf, .int .i64 ym, .int .i64 yr, .int .i64 yy, .slice yq yk yc] 36) = V6 at *
        generalize v6.heap.size = yb at *
        have NBY : yb ≠ b := by omega
        have KS := Lib.hid (need_any kElse (by decide) _ S6b.out.rd)
        generalize ho : need kElse (ts.drop k3) = oo at KS HO 
        refine KS.out.mono ?_
        cases oo with
        | er E q m =>
          rintro _ v7 ⟨k', rfl, hkp, hrd, hm⟩
          have SE := Lib.hid (S6b.out.call hkp hrd)
          go_wp2_with fail
          exact bodyPost_panic rfl (PostO.er HO.out.symm rfl hm SE.out)
        | ok u r =>
          rintro _ v7 ⟨_, k4, rfl, rfl, hkp, hrd, rfl⟩
          have S7 := Lib.hid (S6b.out.call hkp hrd)
          have R7 := Lib.hid (R6b.out.call hkp NB)
          have X7 := Lib.hid (X6b.out.call hkp NBX)
          have Y7 := Lib.hid (Y6b.out.call hkp NBY)
          have N7 := Lib.hid (NodeA.keep hkp.size (fun j (hj : w.heap.size + 1 ≤ j) hj2 => hkp.block j hj2 (by omega)) (fun j hj _ => hj) _ _ N6b.out)
          have M7 := Lib.hid (NodeA.keep hkp.size (fun j (hj : w.heap.size + 1 ≤ j) hj2 => hkp.block j hj2 (by omega)) (fun j hj _ => hj) _ _ M6b.out)
          have hsz_v7 := hkp.size
          have HO2 := HO.out
          rw [bind_ok] at HO2
          replace HO := Lib.hid HO2
          clear HO2 hkp hrd KS
          have G4 := KNL.out _ k3 k4 _ ho
          clear S6b R6b X6b Y6b N6b M6b ho
          go_wp2_with fail
          have KF := Lib.hid (KX.out k4 v7.drew S7.out.drew.rd (by omega))
          generalize rd M0 .ex (ts.drop k4) = oo at KF HO
          obtain ⟨x0, x1, x2, x3, x4, x5, x6, x7, x8, x9, -, -, -, -, -, -, -, -, -, -⟩ := X7.out
          obtain ⟨y0, y1, y2, y3, y4, y5, y6, y7, y8, y9, -, -, -, -, -, -, -, -, -, -⟩ := Y7.out
          have hS : v7.drew.cell? ⟨xb, 0, none⟩ = some (.int .i64 xo) ∧ v7.drew.cell? ⟨xb, 1, none⟩ = some (.int .i64 xa) ∧ v7.drew.cell? ⟨xb, 2, none⟩ = some (.string xs) ∧ v7.drew.cell? ⟨xb, 3, none⟩ = some (.int .i64 xn) ∧ v7.drew.cell? ⟨xb, 4, none⟩ = some (.int .i64 xd) ∧ v7.drew.cell? ⟨xb, 5, none⟩ = some (.bool xf) ∧ v7.drew.cell? ⟨xb, 6, none⟩ = some (.int .i64 xm) ∧ v7.drew.cell? ⟨xb, 7, none⟩ = some (.int .i64 xr) ∧ v7.drew.cell? ⟨xb, 8, none⟩ = some (.int .i64 xy) ∧ v7.drew.cell? ⟨xb, 9, none⟩ = some (.slice xq xk xc) ∧ v7.drew.cell? ⟨yb, 0, none⟩ = some (.int .i64 yo) ∧ v7.drew.cell? ⟨yb, 1, none⟩ = some (.int .i64 ya) ∧ v7.drew.cell? ⟨yb, 2, none⟩ = some (.string ys) ∧ v7.drew.cell? ⟨yb, 3, none⟩ = some (.int .i64 yn) ∧ v7.drew.cell? ⟨yb, 4, none⟩ = some (.int .i64 yd) ∧ v7.drew.cell? ⟨yb, 5, none⟩ = some (.bool yf) ∧ v7.drew.cell? ⟨yb, 6, none⟩ = some (.int .i64 ym) ∧ v7.drew.cell? ⟨yb, 7, none⟩ = some (.int .i64 yr) ∧ v7.drew.cell? ⟨yb, 8, none⟩ = some (.int .i64 yy) ∧ v7.drew.cell? ⟨yb, 9, none⟩ = some (.slice yq yk yc) := ⟨x0, x1, x2, x3, x4, x5, x6, x7, x8, x9, y0, y1, y2, y3, y4, y5, y6, y7, y8, y9⟩
          refine wp_region_held (S := fun w' : World => w'.cell? ⟨xb, 0, none⟩ = some (.int .i64 xo) ∧ w'.cell? ⟨xb, 1, none⟩ = some (.int .i64 xa) ∧ w'.cell? ⟨xb, 2, none⟩ = some (.string xs) ∧ w'.cell? ⟨xb, 3, none⟩ = some (.int .i64 xn) ∧ w'.cell? ⟨xb, 4, none⟩ = some (.int .i64 xd) ∧ w'.cell? ⟨xb, 5, none⟩ = some (.bool xf) ∧ w'.cell? ⟨xb, 6, none⟩ = some (.int .i64 xm) ∧ w'.cell? ⟨xb, 7, none⟩ = some (.int .i64 xr) ∧ w'.cell? ⟨xb, 8, none⟩ = some (.int .i64 xy) ∧ w'.cell? ⟨xb, 9, none⟩ = some (.slice xq xk xc) ∧ w'.cell? ⟨yb, 0, none⟩ = some (.int .i64 yo) ∧ w'.cell? ⟨yb, 1, none⟩ = some (.int .i64 ya) ∧ w'.cell? ⟨yb, 2, none⟩ = some (.string ys) ∧ w'.cell? ⟨yb, 3, none⟩ = some (.int .i64 yn) ∧ w'.cell? ⟨yb, 4, none⟩ = some (.int .i64 yd) ∧ w'.cell? ⟨yb, 5, none⟩ = some (.bool yf) ∧ w'.cell? ⟨yb, 6, none⟩ = some (.int .i64 ym) ∧ w'.cell? ⟨yb, 7, none⟩ = some (.int .i64 yr) ∧ w'.cell? ⟨yb, 8, none⟩ = some (.int .i64 yy) ∧ w'.cell? ⟨yb, 9, none⟩ = some (.slice yq yk yc)) mixed ?_
          change wpAnyH _ _ _ _ _ _ _ _ v7.drew
          refine tk0 (v := ?_) (by kernel_rfl) (by kernel_rfl) (by kernel_rfl) (fun _ _ _ h => h) (Or.inl ⟨by rfl, ?_⟩) hS ?_
          rotate_left
          · (intro w hSw; (try dsimp only at hSw); go_simp; try with_reducible rfl)
          simp only [Act.put, List.setIfInBounds_toArray, List.set_cons_zero, List.set_cons_succ]
          refine tk1 (v := ?_) (by kernel_rfl) (by kernel_rfl) (by kernel_rfl) (fun _ _ _ h => h) (Or.inl ⟨by rfl, ?_⟩) hS ?_
          rotate_left
          · (intro w hSw; (try dsimp only at hSw); go_simp; try with_reducible rfl)
          simp only [Act.put, List.setIfInBounds_toArray, List.set_cons_zero, List.set_cons_succ]
          refine tk2 (v := ?_) (by kernel_rfl) (by kernel_rfl) (by kernel_rfl) (fun _ _ _ h => h) (Or.inl ⟨by rfl, ?_⟩) hS ?_
          rotate_left
          · (intro w hSw; (try dsimp only at hSw); go_simp; try with_reducible rfl)
          simp only [Act.put, List.setIfInBounds_toArray, List.set_cons_zero, List.set_cons_succ]
          refine tk3 (v := ?_) (by kernel_rfl) (by kernel_rfl) (by kernel_rfl) (fun _ _ _ h => h) (Or.inl ⟨by rfl, ?_⟩) hS ?_
          rotate_left
          · (intro w hSw; (try dsimp only at hSw); go_simp; try with_reducible rfl)
          simp only [Act.put, List.setIfInBounds_toArray, List.set_cons_zero, List.set_cons_succ]
          refine wpAnyH_ready (rs := [4]) (by kernel_rfl) (by simp) (st4 (fun K hK => ?_) AllReadyH.nil)
          go_simp
          refine KF.out.mono ?_
          cases oo with
          | er E q m =>
            rintro _ v8 ⟨k5, rfl, hkp, hrd, hm⟩
            have S8 := Lib.hid (S7.out.drew.call hkp hrd)
            go_wp2_with fail
            exact bodyPost_panic rfl (PostO.er HO.out.symm rfl hm S8.out)
          | ok a3 r =>
            rintro _ v8 ⟨_, k5, rfl, ⟨⟨zo, za, zs, zn, zd, zf, zm, zr, zy, zq, zk, zc⟩, rfl, hz⟩, hkp, hrd, rfl⟩
            have hdr := (Below.refl v7.heap.size v7).drew
            have S8 := Lib.hid (S7.out.drew.call hkp hrd)
            have R8 := Lib.hid ((R7.out.bel hdr).call hkp NB)
            have X8 := Lib.hid ((X7.out.bel hdr).call hkp NBX)
            have Y8 := Lib.hid ((Y7.out.bel hdr).call hkp NBY)
            have N8 : Hid (NodeA v8 (fun j => w.heap.size + 1 ≤ j) (offs ts En) a1 ⟨xo, xa, xs, xn, xd, xf, xm, xr, xy, xq, xk, xc⟩) := NodeA.keep (w := v7.drew) hkp.size (fun j (hj : w.heap.size + 1 ≤ j) hj2 => hkp.block j hj2 (by omega)) (fun j hj _ => hj) _ _ (NodeA.bel hdr _ _ N7.out)
            have M8 : Hid (NodeA v8 (fun j => w.heap.size + 1 ≤ j) (offs ts En) a2 ⟨yo, ya, ys, yn, yd, yf, ym, yr, yy, yq, yk, yc⟩) := NodeA.keep (w := v7.drew) hkp.size (fun j (hj : w.heap.size + 1 ≤ j) hj2 => hkp.block j hj2 (by omega)) (fun j hj _ => hj) _ _ (NodeA.bel hdr _ _ M7.out)
            have L8 : Hid (NodeA v8 (fun j => w.heap.size + 1 ≤ j) (offs ts En) a3 ⟨zo, za, zs, zn, zd, zf, zm, zr, zy, zq, zk, zc⟩) := NodeA.keep (Nat.le_refl _) (fun _ _ _ => rfl) (fun j (hj : v7.heap.size ≤ j) _ => (by show _ ≤ j; omega)) _ _ hz
            have hsz8 : v7.heap.size ≤ v8.heap.size := hkp.size
            have HO2 := HO.out
            rw [bind_ok] at HO2
            clear hdr hkp hrd hz S7 R7 X7 Y7 N7 M7 KF HO
            unfold nv
            go_wp2_with fail
            refine hK.out _ _ ?_ (fun hHeld => ?_)
            · exact ⟨X8.out.c0, X8.out.c1, X8.out.c2, X8.out.c3, X8.out.c4, X8.out.c5, X8.out.c6, X8.out.c7, X8.out.c8, X8.out.c9, Y8.out.c0, Y8.out.c1, Y8.out.c2, Y8.out.c3, Y8.out.c4, Y8.out.c5, Y8.out.c6, Y8.out.c7, Y8.out.c8, Y8.out.c9⟩
            clear hK K
            try simp only [Act.put, List.setIfInBounds_toArray, List.set_cons_zero, List.set_cons_succ]
            refine wpAnyH_ready (rs := [5]) (by kernel_rfl) (by simp) (st5 (fun K hK => ?_) AllReadyH.nil)
            go_simp
            have bl := (Below.refl v8.heap.size v8).alloc (Nat.le_refl _) (.cells #[.int .i64 xo, .int .i64 xa, .string xs, .int .i64 xn, .int .i64 xd, .bool xf, .int .i64 xm, .int .i64 xr, .int .i64 xy, .slice xq xk xc, .int .i64 yo, .int .i64 ya, .string ys, .int .i64 yn, .int .i64 yd, .bool yf, .int .i64 ym, .int .i64 yr, .int .i64 yy, .slice yq yk yc, .int .i64 zo, .int .i64 za, .string zs, .int .i64 zn, .int .i64 zd, .bool zf, .int .i64 zm, .int .i64 zr, .int .i64 zy, .slice zq zk zc] 36)
            have S9 := Lib.hid (S8.out.bel bl)
            have R9 := Lib.hid (R8.out.bel bl)
            have X9 := Lib.hid (X8.out.bel bl)
            have Y9 := Lib.hid (Y8.out.bel bl)
            have N9 := Lib.hid (NodeA.bel bl _ _ N8.out)
            have M9 := Lib.hid (NodeA.bel bl _ _ M8.out)
            have L9 := Lib.hid (NodeA.bel bl _ _ L8.out)
            have HB := Lib.hid (heap_alloc_new v8 (.cells #[.int .i64 xo, .int .i64 xa, .string xs, .int .i64 xn, .int .i64 xd, .bool xf, .int .i64 xm, .int .i64 xr, .int .i64 xy, .slice xq xk xc, .int .i64 yo, .int .i64 ya, .string ys, .int .i64 yn, .int .i64 yd, .bool yf, .int .i64 ym, .int .i64 yr, .int .i64 yy, .slice yq yk yc, .int .i64 zo, .int .i64 za, .string zs, .int .i64 zn, .int .i64 zd, .bool zf, .int .i64 zm, .int .i64 zr, .int .i64 zy, .slice zq zk zc] 36))
            clear bl S8 R8 X8 Y8 N8 M8 L8
            generalize v8.alloc (.cells #[.int .i64 xo, .int .i64 xa, .string xs, .int .i64 xn, .int .i64 xd, .bool xf, .int .i64 xm, .int .i64 xr, .int .i64 xy, .slice xq xk xc, .int .i64 yo, .int .i64 ya, .string ys, .int .i64 yn, .int .i64 yd, .bool yf, .int .i64 ym, .int .i64 yr, .int .i64 yy, .slice yq yk yc, .int .i64 zo, .int .i64 za, .string zs, .int .i64 zn, .int .i64 zd, .bool zf, .int .i64 zm, .int .i64 zr, .int .i64 zy, .slice zq zk zc] 36) = V9 at *
            generalize v8.heap.size = aq at *
            refine hK.out _ _ ?_ (fun hHeld => ?_)
            · exact ⟨X9.out.c0, X9.out.c1, X9.out.c2, X9.out.c3, X9.out.c4, X9.out.c5, X9.out.c6, X9.out.c7, X9.out.c8, X9.out.c9, Y9.out.c0, Y9.out.c1, Y9.out.c2, Y9.out.c3, Y9.out.c4, Y9.out.c5, Y9.out.c6, Y9.out.c7, Y9.out.c8, Y9.out.c9⟩
            clear hK K
            try simp only [Act.put, List.setIfInBounds_toArray, List.set_cons_zero, List.set_cons_succ]
            refine tk6 (v := ?_) (by kernel_rfl) (by kernel_rfl) (by kernel_rfl) (fun _ _ _ h => h) (Or.inl ⟨by rfl, ?_⟩) hHeld ?_
            rotate_left
            · (intro w hSw; (try dsimp only at hSw); go_simp; try with_reducible rfl)
            simp only [Act.put, List.setIfInBounds_toArray, List.set_cons_zero, List.set_cons_succ]
            obtain ⟨r0, r1, r2, r3, r4, r5, r6, r7, r8, r9, q0, q1, q2, q3, q4, q5, q6, q7, q8, q9⟩ := R9.out
            have NXR : xb ≠ w.heap.size := by omega
            have NYR : yb ≠ w.heap.size := by omega
            refine wpAnyH_ready (rs := [7]) (by kernel_rfl) (by simp) (st7 (fun K hK => ?_) AllReadyH.nil)
            go_simp
            have XT := Lib.hid ((((((((((X9.out.other NXR 0 none (.int .i64 16)).other NXR 1 none (.int .i64 ta)).other NXR 2 none (.string ⟨#[]⟩)).other NXR 3 none (.int .i64 0)).other NXR 4 none (.int .i64 0)).other NXR 5 none (.bool false)).other NXR 6 none (.int .i64 0)).other NXR 7 none (.int .i64 0)).other NXR 8 none (.int .i64 0)).other NXR 9 none (.slice (some ⟨aq, 0, none⟩) 3 3))
            have YT := Lib.hid ((((((((((Y9.out.other NYR 0 none (.int .i64 16)).other NYR 1 none (.int .i64 ta)).other NYR 2 none (.string ⟨#[]⟩)).other NYR 3 none (.int .i64 0)).other NYR 4 none (.int .i64 0)).other NYR 5 none (.bool false)).other NYR 6 none (.int .i64 0)).other NYR 7 none (.int .i64 0)).other NYR 8 none (.int .i64 0)).other NYR 9 none (.slice (some ⟨aq, 0, none⟩) 3 3))
            refine hK.out _ _ ?_ (fun hHeld => ?_)
            · exact ⟨XT.out.c0, XT.out.c1, XT.out.c2, XT.out.c3, XT.out.c4, XT.out.c5, XT.out.c6, XT.out.c7, XT.out.c8, XT.out.c9, YT.out.c0, YT.out.c1, YT.out.c2, YT.out.c3, YT.out.c4, YT.out.c5, YT.out.c6, YT.out.c7, YT.out.c8, YT.out.c9⟩
            clear hK K
            try simp only [Act.put, List.setIfInBounds_toArray, List.set_cons_zero, List.set_cons_succ]
            refine wpAnyH_done (by kernel_rfl) ?_ _
            go_wp2_with fail
            refine (?_ : ∀ F : World, B10 F w.heap.size (.int .i64 16) (.int .i64 ta) (.string ⟨#[]⟩) (.int .i64 0) (.int .i64 0) (.bool false) (.int .i64 0) (.int .i64 0) (.int .i64 0) (.slice (some ⟨aq, 0, none⟩) 3 3) → Sx w F b p cap qb ts En mb k5 → Kfr (w.heap.size + 1) V9 F → bodyPost _ _ _ _ _ F) _ (R9.out.put _ _ _ _ _ _ _ _ _ _) ((((((((((S9.out.other (Nat.le_refl _) 0 _).other (Nat.le_refl _) 1 _).other (Nat.le_refl _) 2 _).other (Nat.le_refl _) 3 _).other (Nat.le_refl _) 4 _).other (Nat.le_refl _) 5 _).other (Nat.le_refl _) 6 _).other (Nat.le_refl _) 7 _).other (Nat.le_refl _) 8 _).other (Nat.le_refl _) 9 _) (((((((((((Kfr.refl (w.heap.size + 1) _).set (by omega) 0 none _).set (by omega) 1 none _).set (by omega) 2 none _).set (by omega) 3 none _).set (by omega) 4 none _).set (by omega) 5 none _).set (by omega) 6 none _).set (by omega) 7 none _).set (by omega) 8 none _).set (by omega) 9 none _)
            intro F hF hS hK
            obtain ⟨y0, y1, y2, y3, y4, y5, y6, y7, y8, y9, -, -, -, -, -, -, -, -, -, -⟩ := hF
            refine bodyPost_ret (v := .agg #[.int .i64 16, .int .i64 ta, .string ⟨#[]⟩, .int .i64 0, .int .i64 0, .bool false, .int .i64 0, .int .i64 0, .int .i64 0, .slice (some ⟨aq, 0, none⟩) 3 3]) (by simp [results, Tryz.results57, go_sem, y0, y1, y2, y3, y4, y5, y6, y7, y8, y9]) rfl (PostO.ok HO2.symm ⟨⟨16, ta, ⟨#[]⟩, 0, 0, false, 0, 0, 0, some ⟨aq, 0, none⟩, 3, 3⟩, rfl, ?_⟩ hS)
            rw [HAT.out]
            refine NodeV.keep hK (Nat.le_succ _) _ _ (node_at (T := 36) [a1, a2, a3] [⟨xo, xa, xs, xn, xd, xf, xm, xr, xy, xq, xk, xc⟩, ⟨yo, ya, ys, yn, yd, yf, ym, yr, yy, yq, yk, yc⟩, ⟨zo, za, zs, zn, zd, zf, zm, zr, zy, zq, zk, zc⟩] 16 (ts.length - k) 3 rfl (by show _ ≤ aq; omega) (fun i h h' => ?_) HB.out)
            match i, h with
            | 0, _ => exact N9.out
            | 1, _ => exact M9.out
            | 2, _ => exact L9.out
end
end Go.Proofs.YtedbpjcglnkjmaaGreatDoor
namespace Go.Proofs.YtedbpjcglnkjmaaGreatDoor
open Go.RowKit Lx Pa

section
variable {b cap qb En mb : Nat} {p : Option Addr} {ts : List Tok}
set_option maxRecDepth 100000 in
set_option maxHeartbeats 12000000 in
theorem call_any {k : Nat} (op : Int) (pl : Nat) (w : World) (h : Rd w b p cap qb ts En mb k) (HX : ∀ (k' : Nat) (w : World), Rd w b p cap qb ts En mb k' → ts.length - k' < ts.length - k → Calls Tryz.prog 57 #[.pointer (some ⟨b, 0, none⟩)] w fun e w' => PostO w b p cap qb ts En mb (vX w.heap.size (offs ts En)) (rd M0 .ex (ts.drop k')) e w') :
    Calls Tryz.prog 154 #[.pointer (some ⟨b, 0, none⟩), .int .i64 (offs ts En pl), opV 6 op false] w fun e w' => PostO w b p cap qb ts En mb (vX w.heap.size (offs ts En)) ((need sLp (ts.drop k)).bind fun _ r1 => (rd M0 .ex r1).bind fun a r2 => (need sCm r2).bind fun _ r3 => (rd M0 .ex r3).bind fun b r4 => (need sRp r4).bind fun _ r5 => .ok (.mk op pl [] 0 0 1 [a, b]) r5) e w' := by
  have hbl : b < w.heap.size := h.lt
  have KX := Lib.hid HX
  have KGL := Lib.hid (len_ex (ts := ts))
  have KNL := Lib.hid (len_need (ts := ts))
  clear HX
  obtain ⟨at0, hat⟩ : ∃ z, z = offs ts En pl := ⟨_, rfl⟩
  rw [← hat]
  have HAT := Lib.hid hat
  clear hat
  generalize hO : ((need sLp (ts.drop k)).bind fun _ r1 => (rd M0 .ex r1).bind fun a r2 => (need sCm r2).bind fun _ r3 => (rd M0 .ex r3).bind fun b r4 => (need sRp r4).bind fun _ r5 => .ok (.mk op pl [] 0 0 1 [a, b]) r5 : Out Tree) = O
  have HO := Lib.hid hO
  clear hO
  have S0 := Lib.hid (((Sx.start h).alloc (.cells #[.int .i64 6, .int .i64 op, .bool false] 119)).alloc (.cells #[.int .i64 0, .int .i64 0, .string ⟨#[]⟩, .int .i64 0, .int .i64 0, .bool false, .int .i64 0, .int .i64 0, .int .i64 0, .slice none 0 0] 36))
  have P0 := Lib.hid ((B3.new w (.int .i64 6) (.int .i64 op) (.bool false) 119).bel ((Below.refl _ _).alloc (Nat.le_refl _) (.cells #[.int .i64 0, .int .i64 0, .string ⟨#[]⟩, .int .i64 0, .int .i64 0, .bool false, .int .i64 0, .int .i64 0, .int .i64 0, .slice none 0 0] 36)))
  have R0 := Lib.hid (B10.new (w.alloc (.cells #[.int .i64 6, .int .i64 op, .bool false] 119)) (.int .i64 0) (.int .i64 0) (.string ⟨#[]⟩) (.int .i64 0) (.int .i64 0) (.bool false) (.int .i64 0) (.int .i64 0) (.int .i64 0) (.slice none 0 0) 36)
  rw [World.size_alloc] at R0
  have NB : w.heap.size + 1 ≠ b := by omega
  have NBP : w.heap.size ≠ b := by omega
  have B0 : ((w.alloc (.cells #[.int .i64 6, .int .i64 op, .bool false] 119)).alloc (.cells #[.int .i64 0, .int .i64 0, .string ⟨#[]⟩, .int .i64 0, .int .i64 0, .bool false, .int .i64 0, .int .i64 0, .int .i64 0, .slice none 0 0] 36)).heap.size = w.heap.size + 2 := by simp
  clear h
  unfold opV
  go_enter Tryz.func154, Tryz.ntmps154
  go_wp2_with fail
  change Calls _ _ _ ((w.alloc (.cells #[.int .i64 6, .int .i64 op, .bool false] 119)).alloc (.cells #[.int .i64 0, .int .i64 0, .string ⟨#[]⟩, .int .i64 0, .int .i64 0, .bool false, .int .i64 0, .int .i64 0, .int .i64 0, .slice none 0 0] 36)) _
  generalize (w.alloc (.cells #[.int .i64 6, .int .i64 op, .bool false] 119)).alloc (.cells #[.int .i64 0, .int .i64 0, .string ⟨#[]⟩, .int .i64 0, .int .i64 0, .bool false, .int .i64 0, .int .i64 0, .int .i64 0, .slice none 0 0] 36) = V at *
  have KS := Lib.hid (need_any sLp (by decide) _ S0.out.rd)
  generalize ho : need sLp (ts.drop k) = oo at KS HO 
  refine KS.out.mono ?_
  cases oo with
  | er E q m =>
    rintro _ v1 ⟨k', rfl, hkp, hrd, hm⟩
    have SE := Lib.hid (S0.out.call hkp hrd)
    go_wp2_with fail
    exact bodyPost_panic rfl (PostO.er HO.out.symm rfl hm SE.out)
  | ok u r =>
    rintro _ v1 ⟨_, k1, rfl, rfl, hkp, hrd, rfl⟩
    have S1 := Lib.hid (S0.out.call hkp hrd)
    have R1 := Lib.hid (R0.out.call hkp NB)
    have P1 := Lib.hid (P0.out.call hkp NBP)
    have hsz_v1 := hkp.size
    have HO2 := HO.out
    rw [bind_ok] at HO2
    replace HO := Lib.hid HO2
    clear HO2 hkp hrd KS
    have G0 := KNL.out _ k k1 _ ho
    clear S0 R0 P0 ho
    go_wp2_with fail
    have KS := Lib.hid (KX.out k1 v1 S1.out.rd (by omega))
    generalize ho : rd M0 .ex (ts.drop k1) = oo at KS HO 
    refine KS.out.mono ?_
    cases oo with
    | er E q m =>
      rintro _ v3 ⟨k', rfl, hkp, hrd, hm⟩
      have SE := Lib.hid (S1.out.call hkp hrd)
      go_wp2_with fail
      exact bodyPost_panic rfl (PostO.er HO.out.symm rfl hm SE.out)
    | ok a1 r =>
      rintro _ v3 ⟨_, k2, rfl, ⟨⟨xo, xa, xs, xn, xd, xf, xm, xr, xy, xq, xk, xc⟩, rfl, hx⟩, hkp, hrd, rfl⟩
      have S3 := Lib.hid (S1.out.call hkp hrd)
      have R3 := Lib.hid (R1.out.call hkp NB)
      have P3 := Lib.hid (P1.out.call hkp NBP)
      have N3 := Lib.hid (NodeA.keep (A' := fun j => w.heap.size + 2 ≤ j) (Nat.le_refl _) (fun _ _ _ => rfl) (fun j (hj : v1.heap.size ≤ j) _ => (by show _ ≤ j; omega)) _ _ hx)
      have hsz_v3 := hkp.size
      have HO2 := HO.out
      rw [bind_ok] at HO2
      replace HO := Lib.hid HO2
      clear HO2 hkp hrd KS
      have G1 := KGL.out k1 k2 _ ho
      clear hx S1 R1 P1 ho
      unfold nv
      have bl := (Below.refl v3.heap.size v3).alloc (Nat.le_refl _) (.cells #[.int .i64 xo, .int .i64 xa, .string xs, .int .i64 xn, .int .i64 xd, .bool xf, .int .i64 xm, .int .i64 xr, .int .i64 xy, .slice xq xk xc] 36)
      have S4 := Lib.hid (S3.out.bel bl)
      have R4 := Lib.hid (R3.out.bel bl)
      have P4 := Lib.hid (P3.out.bel bl)
      have N4 := Lib.hid (NodeA.bel bl _ _ N3.out)
      have X4 := Lib.hid (B10.new v3 (.int .i64 xo) (.int .i64 xa) (.string xs) (.int .i64 xn) (.int .i64 xd) (.bool xf) (.int .i64 xm) (.int .i64 xr) (.int .i64 xy) (.slice xq xk xc) 36)
      have hv4 : (v3.alloc (.cells #[.int .i64 xo, .int .i64 xa, .string xs, .int .i64 xn, .int .i64 xd, .bool xf, .int .i64 xm, .int .i64 xr, .int .i64 xy, .slice xq xk xc] 36)).heap.size = v3.heap.size + 1 := by simp
      clear bl S3 R3 P3 N3
      go_wp2_with fail
      generalize v3.alloc (.cells #[.int .i64 xo, .int .i64 xa, .string xs, .int .i64 xn, .int .i64 xd, .bool xf, .int .i64 xm, .int .i64 xr, .int .i64 xy, .slice xq xk xc] 36) = V4 at *
      generalize v3.heap.size = xb at *
      have NBX : xb ≠ b := by omega
      have KS := Lib.hid (need_any sCm (by decide) _ S4.out.rd)
      generalize ho : need sCm (ts.drop k2) = oo at KS HO 
      refine KS.out.mono ?_
      cases oo with
      | er E q m =>
        rintro _ v5 ⟨k', rfl, hkp, hrd, hm⟩
        have SE := Lib.hid (S4.out.call hkp hrd)
        go_wp2_with fail
        exact bodyPost_panic rfl (PostO.er HO.out.symm rfl hm SE.out)
      | ok u r =>
        rintro _ v5 ⟨_, k3, rfl, rfl, hkp, hrd, rfl⟩
        have S5 := Lib.hid (S4.out.call hkp hrd)
        have R5 := Lib.hid (R4.out.call hkp NB)
        have P5 := Lib.hid (P4.out.call hkp NBP)
        have X5 := Lib.hid (X4.out.call hkp NBX)
        have N5 := Lib.hid (NodeA.keep hkp.size (fun j (hj : w.heap.size + 2 ≤ j) hj2 => hkp.block j hj2 (by omega)) (fun j hj _ => hj) _ _ N4.out)
        have hsz_v5 := hkp.size
        have HO2 := HO.out
        rw [bind_ok] at HO2
        replace HO := Lib.hid HO2
        clear HO2 hkp hrd KS
        have G2 := KNL.out _ k2 k3 _ ho
        clear S4 R4 P4 X4 N4 ho
        go_wp2_with fail
        have KS := Lib.hid (KX.out k3 v5 S5.out.rd (by omega))
        generalize rd M0 .ex (ts.drop k3) = oo at KS HO 
        refine KS.out.mono ?_
        cases oo with
        | er E q m =>
          rintro _ v6 ⟨k', rfl, hkp, hrd, hm⟩
          have SE := Lib.hid (S5.out.call hkp hrd)
          go_wp2_with fail
          exact bodyPost_panic rfl (PostO.er HO.out.symm rfl hm SE.out)
        | ok a2 r =>
          rintro _ v6 ⟨_, k4, rfl, ⟨⟨yo, ya, ys, yn, yd, yf, ym, yr, yy, yq, yk, yc⟩, rfl, hx⟩, hkp, hrd, rfl⟩
          have S6 := Lib.hid (S5.out.call hkp hrd)
          have R6 := Lib.hid (R5.out.call hkp NB)
          have P6 := Lib.hid (P5.out.call hkp NBP)
          have X6 := Lib.hid (X5.out.call hkp NBX)
          have N6 := Lib.hid (NodeA.keep hkp.size (fun j (hj : w.heap.size + 2 ≤ j) hj2 => hkp.block j hj2 (by omega)) (fun j hj _ => hj) _ _ N5.out)
          have M6 := Lib.hid (NodeA.keep (A' := fun j => w.heap.size + 2 ≤ j) (Nat.le_refl _) (fun _ _ _ => rfl) (fun j (hj : v5.heap.size ≤ j) _ => (by show _ ≤ j; omega)) _ _ hx)
          have hsz_v6 := hkp.size
          have HO2 := HO.out
          rw [bind_ok] at HO2
          replace HO := Lib.hid HO2
          clear HO2 hkp hrd KS
          clear hx S5 R5 P5 X5 N5
          unfold nv
          have bl := (Below.refl v6.heap.size v6).alloc (Nat.le_refl _) (.cells #[.int .i64 yo, .int .i64 ya, .string ys, .int .i64 yn, .int .i64 yd, .bool yf, .int .i64 ym, .int .i64 yr, .int .i64 yy, .slice yq yk yc] 36)
          have S6b := Lib.hid (S6.out.bel bl)
          have R6b := Lib.hid (R6.out.bel bl)
          have P6b := Lib.hid (P6.out.bel bl)
          have X6b := Lib.hid (X6.out.bel bl)
          have N6b := Lib.hid (NodeA.bel bl _ _ N6.out)
          have M6b := Lib.hid (NodeA.bel bl _ _ M6.out)
          have Y6b := Lib.hid (B10.new v6 (.int .i64 yo) (.int .i64 ya) (.string ys) (.int .i64 yn) (.int .i64 yd) (.bool yf) (.int .i64 ym) (.int .i64 yr) (.int .i64 yy) (.slice yq yk yc) 36)
          have hv6 : (v6.alloc (.cells #[.int .i64 yo, .int .i64 ya, .string ys, .int .i64 yn, .int .i64 yd, .bool yf, .int .i64 ym, .int .i64 yr, .int .i64 yy, .slice yq yk yc] 36)).heap.size = v6.heap.size + 1 := by simp
          clear bl S6 R6 P6 X6 N6 M6
          go_wp2_with fail
          generalize v6.alloc (.cells #[.int .i64 yo, .int .i64 ya, .string ys, .int .i64 yn, .int .i64 yd, .bool yf, .int .i64 ym, .int .i64 yr, .int .i64 yy, .slice yq yk yc] 36) = V6 at *
          generalize v6.heap.size = yb at *
          have NBY : yb ≠ b := by omega
          have KS := Lib.hid (need_any sRp (by decide) _ S6b.out.rd)
          generalize need sRp (ts.drop k4) = oo at KS HO 
          refine KS.out.mono ?_
          cases oo with
          | er E q m =>
            rintro _ v7 ⟨k', rfl, hkp, hrd, hm⟩
            have SE := Lib.hid (S6b.out.call hkp hrd)
            go_wp2_with fail
            exact bodyPost_panic rfl (PostO.er HO.out.symm rfl hm SE.out)
          | ok u r =>
            rintro _ v7 ⟨_, k5, rfl, rfl, hkp, hrd, rfl⟩
            have S7 := Lib.hid (S6b.out.call hkp hrd)
            have R7 := Lib.hid (R6b.out.call hkp NB)
            have P7 := Lib.hid (P6b.out.call hkp NBP)
            have X7 := Lib.hid (X6b.out.call hkp NBX)
            have Y7 := Lib.hid (Y6b.out.call hkp NBY)
            have N7 := Lib.hid (NodeA.keep hkp.size (fun j (hj : w.heap.size + 2 ≤ j) hj2 => hkp.block j hj2 (by omega)) (fun j hj _ => hj) _ _ N6b.out)
            have M7 := Lib.hid (NodeA.keep hkp.size (fun j (hj : w.heap.size + 2 ≤ j) hj2 => hkp.block j hj2 (by omega)) (fun j hj _ => hj) _ _ M6b.out)
            have hsz_v7 := hkp.size
            have HO2 := HO.out
            rw [bind_ok] at HO2
            replace HO := Lib.hid HO2
            clear HO2 hkp hrd KS
            clear S6b R6b P6b X6b Y6b N6b M6b
            obtain ⟨x0, x1, x2, x3, x4, x5, x6, x7, x8, x9, -, -, -, -, -, -, -, -, -, -⟩ := X7.out
            obtain ⟨y0, y1, y2, y3, y4, y5, y6, y7, y8, y9, -, -, -, -, -, -, -, -, -, -⟩ := Y7.out
            obtain ⟨p0, p1, p2, -, -, -⟩ := P7.out
            have KN := Lib.hid (node_any (fun j => w.heap.size + 2 ≤ j) (offs ts En) 6 op false pl a1 a2 ⟨xo, xa, xs, xn, xd, xf, xm, xr, xy, xq, xk, xc⟩ ⟨yo, ya, ys, yn, yd, yf, ym, yr, yy, yq, yk, yc⟩ v7 N7.out M7.out (fun j hj => (by show _ ≤ j; omega)))
            rw [← HAT.out] at KN
            unfold opV nv at KN
            go_wp2_with fail
            refine KN.out.mono ?_
            rintro _ v8 ⟨⟨zo, za, zs, zn, zd, zf, zm, zr, zy, zq, zk, zc⟩, rfl, hz, hb⟩
            have S8 := Lib.hid (S7.out.bel hb)
            have R8 := Lib.hid (R7.out.bel hb)
            have NZ := Lib.hid hz
            clear hb hz KN S7 R7 P7 X7 Y7 N7 M7 x0 x1 x2 x3 x4 x5 x6 x7 x8 x9 y0 y1 y2 y3 y4 y5 y6 y7 y8 y9 p0 p1 p2
            obtain ⟨r0, r1, r2, r3, r4, r5, r6, r7, r8, r9, q0, q1, q2, q3, q4, q5, q6, q7, q8, q9⟩ := R8.out
            go_wp2_with fail
            refine (?_ : ∀ F : World, B10 F (w.heap.size + 1) (.int .i64 zo) (.int .i64 za) (.string zs) (.int .i64 zn) (.int .i64 zd) (.bool zf) (.int .i64 zm) (.int .i64 zr) (.int .i64 zy) (.slice zq zk zc) → Sx w F b p cap qb ts En mb k5 → Kfr (w.heap.size + 2) v8 F → bodyPost _ _ _ _ _ F) _ (R8.out.put _ _ _ _ _ _ _ _ _ _) ((((((((((S8.out.other (by omega) 0 _).other (by omega) 1 _).other (by omega) 2 _).other (by omega) 3 _).other (by omega) 4 _).other (by omega) 5 _).other (by omega) 6 _).other (by omega) 7 _).other (by omega) 8 _).other (by omega) 9 _) (((((((((((Kfr.refl (w.heap.size + 2) _).set (by omega) 0 none _).set (by omega) 1 none _).set (by omega) 2 none _).set (by omega) 3 none _).set (by omega) 4 none _).set (by omega) 5 none _).set (by omega) 6 none _).set (by omega) 7 none _).set (by omega) 8 none _).set (by omega) 9 none _)
            intro F hF hS hK
            obtain ⟨y0, y1, y2, y3, y4, y5, y6, y7, y8, y9, -, -, -, -, -, -, -, -, -, -⟩ := hF
            exact bodyPost_ret (v := .agg #[.int .i64 zo, .int .i64 za, .string zs, .int .i64 zn, .int .i64 zd, .bool zf, .int .i64 zm, .int .i64 zr, .int .i64 zy, .slice zq zk zc]) (by simp [results, Tryz.results154, go_sem, y0, y1, y2, y3, y4, y5, y6, y7, y8, y9]) rfl (PostO.ok HO.out.symm ⟨⟨zo, za, zs, zn, zd, zf, zm, zr, zy, zq, zk, zc⟩, rfl, NodeV.keep hK (by omega) _ _ NZ.out⟩ hS)
set_option maxRecDepth 100000 in
set_option maxHeartbeats 8000000 in
theorem fac_name {k : Nat} (w : World) (h : Rd w b p cap qb ts En mb k) (h2 : (pk ts En k).k ≠ 2) (hp : isW sLp (ts.drop k) = false) (ht : isW kTrue (ts.drop k) = false) (ho : opAt 6 (pk ts En k).t = none) :
    Calls Tryz.prog 147 #[.pointer (some ⟨b, 0, none⟩)] w fun e w' => PostO w b p cap qb ts En mb (vX w.heap.size (offs ts En)) ((nameO (ts.drop k)).bind fun nm r => .ok (.mk 2 (ts.length - k) nm 0 0 1 []) r) e w' := by
  have hbl : b < w.heap.size := h.lt
  have e1 : ((pk ts En k).k == 2) = false := by simpa using h2
  have KB := Lib.hid (fun w h => passes_any (b := b) (cap := cap) (qb := qb) (En := En) (mb := mb) (k := k) (p := p) (ts := ts) sLp (by decide) w h)
  rw [hp, if_neg (by simp)] at KB
  have KT := Lib.hid (fun w h => passes_any (b := b) (cap := cap) (qb := qb) (En := En) (mb := mb) (k := k) (p := p) (ts := ts) kTrue (by decide) w h)
  rw [ht, if_neg (by simp)] at KT
  have KO := Lib.hid (fun w h => oper_no (b := b) (cap := cap) (qb := qb) (En := En) (mb := mb) (k := k) (p := p) (ts := ts) 6 w h (by decide) ho)
  have KM := Lib.hid (fun w h => name_any (b := b) (cap := cap) (qb := qb) (En := En) (mb := mb) (k := k) (p := p) (ts := ts) w h)
  clear hp h2 ht ho
  generalize hO : ((nameO (ts.drop k)).bind fun nm r => .ok (.mk 2 (ts.length - k) nm 0 0 1 []) r : Out Tree) = O
  have HO := Lib.hid hO
  clear hO
  have KP := Lib.hid (fun w h => peek_any (b := b) (cap := cap) (qb := qb) (En := En) (mb := mb) (k := k) (p := p) (ts := ts) w h)
  have HAO : Hid ((pk ts En k).a = offs ts En (ts.length - k)) := pk_offs h.kl
  obtain ⟨at0, hat⟩ : ∃ z, z = offs ts En (ts.length - k) := ⟨_, rfl⟩
  rw [← hat] at HAO
  have HAT := Lib.hid hat
  clear hat
  have S0 := Lib.hid ((Sx.start h).alloc (.cells #[.int .i64 0, .int .i64 0, .string ⟨#[]⟩, .int .i64 0, .int .i64 0, .bool false, .int .i64 0, .int .i64 0, .int .i64 0, .slice none 0 0] 36))
  have R0 := Lib.hid (B10.new w (.int .i64 0) (.int .i64 0) (.string ⟨#[]⟩) (.int .i64 0) (.int .i64 0) (.bool false) (.int .i64 0) (.int .i64 0) (.int .i64 0) (.slice none 0 0) 36)
  have NB : w.heap.size ≠ b := by have := h.lt; omega
  have B0 : (w.alloc (.cells #[.int .i64 0, .int .i64 0, .string ⟨#[]⟩, .int .i64 0, .int .i64 0, .bool false, .int .i64 0, .int .i64 0, .int .i64 0, .slice none 0 0] 36)).heap.size = w.heap.size + 1 := by simp
  clear h
  generalize pk ts En k = t at *
  obtain ⟨tk, ta, tt, tn, td⟩ := t
  unfold tokV at KP
  simp only at e1 HAO
  obtain rfl : ta = at0 := HAO.out
  clear HAO
  go_enter Tryz.func147, Tryz.ntmps147
  go_wp2_with fail
  change Calls _ _ _ (w.alloc (.cells #[.int .i64 0, .int .i64 0, .string ⟨#[]⟩, .int .i64 0, .int .i64 0, .bool false, .int .i64 0, .int .i64 0, .int .i64 0, .slice none 0 0] 36)) _
  generalize w.alloc (.cells #[.int .i64 0, .int .i64 0, .string ⟨#[]⟩, .int .i64 0, .int .i64 0, .bool false, .int .i64 0, .int .i64 0, .int .i64 0, .slice none 0 0] 36) = V at *
  refine (KP.out _ S0.out.rd).mono ?_
  rintro _ v ⟨rfl, hb⟩
  have S1 := Lib.hid ((S0.out.bel hb).alloc (.cells #[.int .i64 tk, .int .i64 ta, .string (bs tt), .int .i64 tn, .int .i64 td] 88))
  have R1 := Lib.hid ((R0.out.bel hb).bel ((Below.refl _ _).alloc (Nat.le_refl _) (.cells #[.int .i64 tk, .int .i64 ta, .string (bs tt), .int .i64 tn, .int .i64 td] 88)))
  have X1 := Lib.hid (B5.new v (.int .i64 tk) (.int .i64 ta) (.string (bs tt)) (.int .i64 tn) (.int .i64 td) 88)
  have hv := hb.size
  have NB1 : v.heap.size ≠ b := by have h1 := (S0.out.bel hb).kp.size; have h2 := S0.out.bl; omega
  have hv1 : (v.alloc (.cells #[.int .i64 tk, .int .i64 ta, .string (bs tt), .int .i64 tn, .int .i64 td] 88)).heap.size = v.heap.size + 1 := by simp
  clear hb S0 R0 KP
  obtain ⟨x0, x1, x2, x3, x4, -, -, -, -, -⟩ := X1.out
  go_wp2_with fail
  clear x0 x1 x2 x3 x4
  change Calls _ _ _ (v.alloc (.cells #[.int .i64 tk, .int .i64 ta, .string (bs tt), .int .i64 tn, .int .i64 td] 88)) _
  generalize v.alloc (.cells #[.int .i64 tk, .int .i64 ta, .string (bs tt), .int .i64 tn, .int .i64 td] 88) = V1 at *
  refine (KB.out _ S1.out.rd).mono ?_
  rintro _ v2 ⟨rfl, hkp, hrd⟩
  have S2 := Lib.hid (S1.out.call hkp hrd)
  have R2 := Lib.hid (R1.out.call hkp NB)
  have X2 := Lib.hid (X1.out.call hkp NB1)
  have hsz_v2 := hkp.size
  clear hkp hrd
  clear S1 R1 X1 KB
  go_wp2_with fail
  refine (KT.out _ S2.out.rd).mono ?_
  rintro _ v3 ⟨rfl, hkp, hrd⟩
  have S3 := Lib.hid (S2.out.call hkp hrd)
  have R3 := Lib.hid (R2.out.call hkp NB)
  have X3 := Lib.hid (X2.out.call hkp NB1)
  have hsz_v3 := hkp.size
  clear hkp hrd
  clear S2 R2 X2 KT
  go_wp2_with fail
  refine (KO.out _ S3.out.rd).mono ?_
  rintro _ v4 ⟨rfl, hkp, hrd⟩
  have S4 := Lib.hid (S3.out.call hkp hrd)
  have R4 := Lib.hid (R3.out.call hkp NB)
  have X4 := Lib.hid (X3.out.call hkp NB1)
  have hsz_v4 := hkp.size
  clear hkp hrd
  clear S3 R3 X3 KO
  have bl := (Below.refl v4.heap.size v4).alloc (Nat.le_refl _) (.cells #[.int .i64 0, .int .i64 0, .bool false] 119)
  have S5 := Lib.hid (S4.out.bel bl)
  have R5 := Lib.hid (R4.out.bel bl)
  have X5 := Lib.hid (X4.out.bel bl)
  unfold opV
  clear bl S4 R4 X4
  go_wp2_with fail
  generalize v4.alloc (.cells #[.int .i64 0, .int .i64 0, .bool false] 119) = V5 at *
  have KF := Lib.hid (KM.out V5.drew S5.out.drew.rd)
  generalize nameO (ts.drop k) = oo at KF HO
  have x1 := X5.out.c1
  have hS : V5.drew.cell? ⟨v.heap.size, 1, none⟩ = some (.int .i64 ta) := x1
  refine wp_region_held (S := fun w' : World => w'.cell? ⟨v.heap.size, 1, none⟩ = some (.int .i64 ta)) mixed ?_
  change wpAnyH _ _ _ _ _ _ _ _ V5.drew
  refine tk0 (v := ?_) (by kernel_rfl) (by kernel_rfl) (by kernel_rfl) (fun _ _ _ h => h) (Or.inl ⟨by rfl, ?_⟩) hS ?_
  rotate_left
  · (intro w hSw; (try dsimp only at hSw); go_simp; try with_reducible rfl)
  simp only [Act.put, List.setIfInBounds_toArray, List.set_cons_zero, List.set_cons_succ]
  refine tk1 (v := ?_) (by kernel_rfl) (by kernel_rfl) (by kernel_rfl) (fun _ _ _ h => h) (Or.inl ⟨by rfl, ?_⟩) hS ?_
  rotate_left
  · (intro w hSw; (try dsimp only at hSw); go_simp; try with_reducible rfl)
  simp only [Act.put, List.setIfInBounds_toArray, List.set_cons_zero, List.set_cons_succ]
  refine tk2 (v := ?_) (by kernel_rfl) (by kernel_rfl) (by kernel_rfl) (fun _ _ _ h => h) (Or.inl ⟨by rfl, ?_⟩) hS ?_
  rotate_left
  · (intro w hSw; (try dsimp only at hSw); go_simp; try with_reducible rfl)
  simp only [Act.put, List.setIfInBounds_toArray, List.set_cons_zero, List.set_cons_succ]
  refine wpAnyH_ready (rs := [3]) (by kernel_rfl) (by simp) (st3 (fun K hK => ?_) AllReadyH.nil)
  go_simp
  refine KF.out.mono ?_
  cases oo with
  | er E q m =>
    rintro _ v8 ⟨k5, rfl, hkp, hrd, hm⟩
    have S8 := Lib.hid (S5.out.drew.call hkp hrd)
    go_wp2_with fail
    exact bodyPost_panic rfl (PostO.er HO.out.symm rfl hm S8.out)
  | ok nm r =>
    rintro _ v8 ⟨_, k5, rfl, rfl, hkp, hrd, rfl⟩
    have hdr := (Below.refl V5.heap.size V5).drew
    have S8 := Lib.hid (S5.out.drew.call hkp hrd)
    have R8 := Lib.hid ((R5.out.bel hdr).call hkp NB)
    have X8 := Lib.hid ((X5.out.bel hdr).call hkp NB1)
    clear hdr hkp hrd S5 R5 X5 KF KM
    go_wp2_with fail
    refine hK.out _ _ ?_ (fun hHeld => ?_)
    · exact X8.out.c1
    clear hK K
    try simp only [Act.put, List.setIfInBounds_toArray, List.set_cons_zero, List.set_cons_succ]
    refine tk4 (v := ?_) (by kernel_rfl) (by kernel_rfl) (by kernel_rfl) (fun _ _ _ h => h) (Or.inl ⟨by rfl, ?_⟩) hHeld ?_
    rotate_left
    · (intro w hSw; (try dsimp only at hSw); go_simp; try with_reducible rfl)
    simp only [Act.put, List.setIfInBounds_toArray, List.set_cons_zero, List.set_cons_succ]
    obtain ⟨r0, r1, r2, r3, r4, r5, r6, r7, r8, r9, q0, q1, q2, q3, q4, q5, q6, q7, q8, q9⟩ := R8.out
    have NXR : v.heap.size ≠ w.heap.size := by omega
    refine wpAnyH_ready (rs := [5]) (by kernel_rfl) (by simp) (st5 (fun K hK => ?_) AllReadyH.nil)
    go_simp
    have XT := Lib.hid ((((((((((X8.out.other NXR 0 none (.int .i64 2)).other NXR 1 none (.int .i64 ta)).other NXR 2 none (.string (bs nm))).other NXR 3 none (.int .i64 0)).other NXR 4 none (.int .i64 0)).other NXR 5 none (.bool false)).other NXR 6 none (.int .i64 0)).other NXR 7 none (.int .i64 0)).other NXR 8 none (.int .i64 0)).other NXR 9 none (.slice none 0 0))
    refine hK.out _ _ ?_ (fun hHeld => ?_)
    · exact XT.out.c1
    clear hK K
    try simp only [Act.put, List.setIfInBounds_toArray, List.set_cons_zero, List.set_cons_succ]
    refine wpAnyH_done (by kernel_rfl) ?_ _
    go_wp2_with fail
    refine (?_ : ∀ F : World, B10 F w.heap.size (.int .i64 2) (.int .i64 ta) (.string (bs nm)) (.int .i64 0) (.int .i64 0) (.bool false) (.int .i64 0) (.int .i64 0) (.int .i64 0) (.slice none 0 0) → Sx w F b p cap qb ts En mb k5 → bodyPost _ _ _ _ _ F) _ (R8.out.put _ _ _ _ _ _ _ _ _ _) ((((((((((S8.out.other (Nat.le_refl _) 0 _).other (Nat.le_refl _) 1 _).other (Nat.le_refl _) 2 _).other (Nat.le_refl _) 3 _).other (Nat.le_refl _) 4 _).other (Nat.le_refl _) 5 _).other (Nat.le_refl _) 6 _).other (Nat.le_refl _) 7 _).other (Nat.le_refl _) 8 _).other (Nat.le_refl _) 9 _)
    intro F hF hS
    obtain ⟨y0, y1, y2, y3, y4, y5, y6, y7, y8, y9, -, -, -, -, -, -, -, -, -, -⟩ := hF
    refine bodyPost_ret (v := .agg #[.int .i64 2, .int .i64 ta, .string (bs nm), .int .i64 0, .int .i64 0, .bool false, .int .i64 0, .int .i64 0, .int .i64 0, .slice none 0 0]) (by simp [results, Tryz.results147, go_sem, y0, y1, y2, y3, y4, y5, y6, y7, y8, y9]) rfl (PostO.ok HO.out.symm ⟨⟨2, ta, bs nm, 0, 0, false, 0, 0, 0, none, 0, 0⟩, rfl, ?_⟩ hS)
    rw [HAT.out]
    exact node_leaf F w.heap.size (offs ts En) 2 (ts.length - k) nm 0 0 1
end
end Go.Proofs.YtedbpjcglnkjmaaGreatDoor
namespace Go.Proofs.YtedbpjcglnkjmaaGreatDoor
open Go.RowKit Lx Pa

section
variable {b cap qb En mb k : Nat} {p : Option Addr} {ts : List Tok}
set_option maxRecDepth 100000 in
set_option maxHeartbeats 4000000 in
theorem or_fwd (o : Out Tree) (w : World) (h : Rd w b p cap qb ts En mb k) (HK : ∀ w, Rd w b p cap qb ts En mb k → Calls Tryz.prog 92 #[.pointer (some ⟨b, 0, none⟩), .int .i64 1, .func (.func 93) #[.pointer (some ⟨b, 0, none⟩)] #[]] w fun e w' => PostO w b p cap qb ts En mb (vX w.heap.size (offs ts En)) o e w') :
    Calls Tryz.prog 77 #[.pointer (some ⟨b, 0, none⟩)] w fun e w' => PostO w b p cap qb ts En mb (vX w.heap.size (offs ts En)) o e w' := by
  have hmf : ∀ (fn : Fn) (first cap : Array Value) (w : World), (Instr.makeFunc fn first cap).run Tryz.prog w = .ok (.func fn first cap) w := fun _ _ _ _ => rfl
  have KR := Lib.hid HK
  clear HK
  have S0 := Lib.hid ((Sx.start h).alloc (.cells #[.int .i64 0, .int .i64 0, .string ⟨#[]⟩, .int .i64 0, .int .i64 0, .bool false, .int .i64 0, .int .i64 0, .int .i64 0, .slice none 0 0] 36))
  have R0 := Lib.hid (B10.new w (.int .i64 0) (.int .i64 0) (.string ⟨#[]⟩) (.int .i64 0) (.int .i64 0) (.bool false) (.int .i64 0) (.int .i64 0) (.int .i64 0) (.slice none 0 0) 36)
  have NB : w.heap.size ≠ b := by have := h.lt; omega
  have B0 : (w.alloc (.cells #[.int .i64 0, .int .i64 0, .string ⟨#[]⟩, .int .i64 0, .int .i64 0, .bool false, .int .i64 0, .int .i64 0, .int .i64 0, .slice none 0 0] 36)).heap.size = w.heap.size + 1 := by simp
  clear h
  go_enter Tryz.func77, Tryz.ntmps77
  go_wp2_with fail
  change Calls _ _ _ (w.alloc (.cells #[.int .i64 0, .int .i64 0, .string ⟨#[]⟩, .int .i64 0, .int .i64 0, .bool false, .int .i64 0, .int .i64 0, .int .i64 0, .slice none 0 0] 36)) _
  generalize w.alloc (.cells #[.int .i64 0, .int .i64 0, .string ⟨#[]⟩, .int .i64 0, .int .i64 0, .bool false, .int .i64 0, .int .i64 0, .int .i64 0, .slice none 0 0] 36) = V at *
  refine (KR.out _ S0.out.rd).mono ?_
  cases o with
  | er E q m =>
    rintro _ v2 ⟨k', rfl, hkp, hrd, hm⟩
    have S2 := Lib.hid (S0.out.call hkp hrd)
    go_wp2_with fail
    exact bodyPost_panic rfl (PostO.er rfl rfl hm S2.out)
  | ok t r =>
    rintro _ v2 ⟨_, k', rfl, ⟨⟨xo, xa, xs, xn, xd, xf, xm, xr, xy, xq, xk, xc⟩, rfl, hx⟩, hkp, hrd, rfl⟩
    have S2 := Lib.hid (S0.out.call hkp hrd)
    have R2 := Lib.hid (R0.out.call hkp NB)
    have HN := Lib.hid hx
    clear hkp hrd hx
    unfold nv
    obtain ⟨r0, r1, r2, r3, r4, r5, r6, r7, r8, r9, q0, q1, q2, q3, q4, q5, q6, q7, q8, q9⟩ := R2.out
    go_wp2_with fail
    refine (?_ : ∀ F : World, B10 F w.heap.size (.int .i64 xo) (.int .i64 xa) (.string xs) (.int .i64 xn) (.int .i64 xd) (.bool xf) (.int .i64 xm) (.int .i64 xr) (.int .i64 xy) (.slice xq xk xc) → Sx w F b p cap qb ts En mb k' → Kfr V.heap.size v2 F → bodyPost _ _ _ _ _ F) _ (R2.out.put _ _ _ _ _ _ _ _ _ _) ?_ ?_
    · intro F hF hS hK
      obtain ⟨y0, y1, y2, y3, y4, y5, y6, y7, y8, y9, -, -, -, -, -, -, -, -, -, -⟩ := hF
      exact bodyPost_ret (v := .agg #[.int .i64 xo, .int .i64 xa, .string xs, .int .i64 xn, .int .i64 xd, .bool xf, .int .i64 xm, .int .i64 xr, .int .i64 xy, .slice xq xk xc]) (by simp [results, Tryz.results77, go_sem, y0, y1, y2, y3, y4, y5, y6, y7, y8, y9]) rfl (PostO.ok rfl ⟨⟨xo, xa, xs, xn, xd, xf, xm, xr, xy, xq, xk, xc⟩, rfl, NodeV.keep hK (by omega) _ _ HN.out⟩ hS)
    · exact ((((((((((S2.out.other (Nat.le_refl _) 0 _).other (Nat.le_refl _) 1 _).other (Nat.le_refl _) 2 _).other (Nat.le_refl _) 3 _).other (Nat.le_refl _) 4 _).other (Nat.le_refl _) 5 _).other (Nat.le_refl _) 6 _).other (Nat.le_refl _) 7 _).other (Nat.le_refl _) 8 _).other (Nat.le_refl _) 9 _)
    · exact (((((((((((Kfr.refl V.heap.size _).set (by omega) 0 none _).set (by omega) 1 none _).set (by omega) 2 none _).set (by omega) 3 none _).set (by omega) 4 none _).set (by omega) 5 none _).set (by omega) 6 none _).set (by omega) 7 none _).set (by omega) 8 none _).set (by omega) 9 none _)
set_option maxRecDepth 100000 in
set_option maxHeartbeats 4000000 in
theorem and_fwd (o : Out Tree) (w : World) (h : Rd w b p cap qb ts En mb k) (HK : ∀ w, Rd w b p cap qb ts En mb k → Calls Tryz.prog 92 #[.pointer (some ⟨b, 0, none⟩), .int .i64 2, .func (.func 108) #[.pointer (some ⟨b, 0, none⟩)] #[]] w fun e w' => PostO w b p cap qb ts En mb (vX w.heap.size (offs ts En)) o e w') :
    Calls Tryz.prog 93 #[.pointer (some ⟨b, 0, none⟩)] w fun e w' => PostO w b p cap qb ts En mb (vX w.heap.size (offs ts En)) o e w' := by
  have hmf : ∀ (fn : Fn) (first cap : Array Value) (w : World), (Instr.makeFunc fn first cap).run Tryz.prog w = .ok (.func fn first cap) w := fun _ _ _ _ => rfl
  have KR := Lib.hid HK
  clear HK
  have S0 := Lib.hid ((Sx.start h).alloc (.cells #[.int .i64 0, .int .i64 0, .string ⟨#[]⟩, .int .i64 0, .int .i64 0, .bool false, .int .i64 0, .int .i64 0, .int .i64 0, .slice none 0 0] 36))
  have R0 := Lib.hid (B10.new w (.int .i64 0) (.int .i64 0) (.string ⟨#[]⟩) (.int .i64 0) (.int .i64 0) (.bool false) (.int .i64 0) (.int .i64 0) (.int .i64 0) (.slice none 0 0) 36)
  have NB : w.heap.size ≠ b := by have := h.lt; omega
  have B0 : (w.alloc (.cells #[.int .i64 0, .int .i64 0, .string ⟨#[]⟩, .int .i64 0, .int .i64 0, .bool false, .int .i64 0, .int .i64 0, .int .i64 0, .slice none 0 0] 36)).heap.size = w.heap.size + 1 := by simp
  clear h
  go_enter Tryz.func93, Tryz.ntmps93
  go_wp2_with fail
  change Calls _ _ _ (w.alloc (.cells #[.int .i64 0, .int .i64 0, .string ⟨#[]⟩, .int .i64 0, .int .i64 0, .bool false, .int .i64 0, .int .i64 0, .int .i64 0, .slice none 0 0] 36)) _
  generalize w.alloc (.cells #[.int .i64 0, .int .i64 0, .string ⟨#[]⟩, .int .i64 0, .int .i64 0, .bool false, .int .i64 0, .int .i64 0, .int .i64 0, .slice none 0 0] 36) = V at *
  refine (KR.out _ S0.out.rd).mono ?_
  cases o with
  | er E q m =>
    rintro _ v2 ⟨k', rfl, hkp, hrd, hm⟩
    have S2 := Lib.hid (S0.out.call hkp hrd)
    go_wp2_with fail
    exact bodyPost_panic rfl (PostO.er rfl rfl hm S2.out)
  | ok t r =>
    rintro _ v2 ⟨_, k', rfl, ⟨⟨xo, xa, xs, xn, xd, xf, xm, xr, xy, xq, xk, xc⟩, rfl, hx⟩, hkp, hrd, rfl⟩
    have S2 := Lib.hid (S0.out.call hkp hrd)
    have R2 := Lib.hid (R0.out.call hkp NB)
    have HN := Lib.hid hx
    clear hkp hrd hx
    unfold nv
    obtain ⟨r0, r1, r2, r3, r4, r5, r6, r7, r8, r9, q0, q1, q2, q3, q4, q5, q6, q7, q8, q9⟩ := R2.out
    go_wp2_with fail
    refine (?_ : ∀ F : World, B10 F w.heap.size (.int .i64 xo) (.int .i64 xa) (.string xs) (.int .i64 xn) (.int .i64 xd) (.bool xf) (.int .i64 xm) (.int .i64 xr) (.int .i64 xy) (.slice xq xk xc) → Sx w F b p cap qb ts En mb k' → Kfr V.heap.size v2 F → bodyPost _ _ _ _ _ F) _ (R2.out.put _ _ _ _ _ _ _ _ _ _) ?_ ?_
    · intro F hF hS hK
      obtain ⟨y0, y1, y2, y3, y4, y5, y6, y7, y8, y9, -, -, -, -, -, -, -, -, -, -⟩ := hF
      exact bodyPost_ret (v := .agg #[.int .i64 xo, .int .i64 xa, .string xs, .int .i64 xn, .int .i64 xd, .bool xf, .int .i64 xm, .int .i64 xr, .int .i64 xy, .slice xq xk xc]) (by simp [results, Tryz.results93, go_sem, y0, y1, y2, y3, y4, y5, y6, y7, y8, y9]) rfl (PostO.ok rfl ⟨⟨xo, xa, xs, xn, xd, xf, xm, xr, xy, xq, xk, xc⟩, rfl, NodeV.keep hK (by omega) _ _ HN.out⟩ hS)
    · exact ((((((((((S2.out.other (Nat.le_refl _) 0 _).other (Nat.le_refl _) 1 _).other (Nat.le_refl _) 2 _).other (Nat.le_refl _) 3 _).other (Nat.le_refl _) 4 _).other (Nat.le_refl _) 5 _).other (Nat.le_refl _) 6 _).other (Nat.le_refl _) 7 _).other (Nat.le_refl _) 8 _).other (Nat.le_refl _) 9 _)
    · exact (((((((((((Kfr.refl V.heap.size _).set (by omega) 0 none _).set (by omega) 1 none _).set (by omega) 2 none _).set (by omega) 3 none _).set (by omega) 4 none _).set (by omega) 5 none _).set (by omega) 6 none _).set (by omega) 7 none _).set (by omega) 8 none _).set (by omega) 9 none _)
set_option maxRecDepth 100000 in
set_option maxHeartbeats 4000000 in
theorem sum_fwd (o : Out Tree) (w : World) (h : Rd w b p cap qb ts En mb k) (HK : ∀ w, Rd w b p cap qb ts En mb k → Calls Tryz.prog 92 #[.pointer (some ⟨b, 0, none⟩), .int .i64 4, .func (.func 139) #[.pointer (some ⟨b, 0, none⟩)] #[]] w fun e w' => PostO w b p cap qb ts En mb (vX w.heap.size (offs ts En)) o e w') :
    Calls Tryz.prog 129 #[.pointer (some ⟨b, 0, none⟩)] w fun e w' => PostO w b p cap qb ts En mb (vX w.heap.size (offs ts En)) o e w' := by
  have hmf : ∀ (fn : Fn) (first cap : Array Value) (w : World), (Instr.makeFunc fn first cap).run Tryz.prog w = .ok (.func fn first cap) w := fun _ _ _ _ => rfl
  have KR := Lib.hid HK
  clear HK
  have S0 := Lib.hid ((Sx.start h).alloc (.cells #[.int .i64 0, .int .i64 0, .string ⟨#[]⟩, .int .i64 0, .int .i64 0, .bool false, .int .i64 0, .int .i64 0, .int .i64 0, .slice none 0 0] 36))
  have R0 := Lib.hid (B10.new w (.int .i64 0) (.int .i64 0) (.string ⟨#[]⟩) (.int .i64 0) (.int .i64 0) (.bool false) (.int .i64 0) (.int .i64 0) (.int .i64 0) (.slice none 0 0) 36)
  have NB : w.heap.size ≠ b := by have := h.lt; omega
  have B0 : (w.alloc (.cells #[.int .i64 0, .int .i64 0, .string ⟨#[]⟩, .int .i64 0, .int .i64 0, .bool false, .int .i64 0, .int .i64 0, .int .i64 0, .slice none 0 0] 36)).heap.size = w.heap.size + 1 := by simp
  clear h
  go_enter Tryz.func129, Tryz.ntmps129
  go_wp2_with fail
  change Calls _ _ _ (w.alloc (.cells #[.int .i64 0, .int .i64 0, .string ⟨#[]⟩, .int .i64 0, .int .i64 0, .bool false, .int .i64 0, .int .i64 0, .int .i64 0, .slice none 0 0] 36)) _
  generalize w.alloc (.cells #[.int .i64 0, .int .i64 0, .string ⟨#[]⟩, .int .i64 0, .int .i64 0, .bool false, .int .i64 0, .int .i64 0, .int .i64 0, .slice none 0 0] 36) = V at *
  refine (KR.out _ S0.out.rd).mono ?_
  cases o with
  | er E q m =>
    rintro _ v2 ⟨k', rfl, hkp, hrd, hm⟩
    have S2 := Lib.hid (S0.out.call hkp hrd)
    go_wp2_with fail
    exact bodyPost_panic rfl (PostO.er rfl rfl hm S2.out)
  | ok t r =>
    rintro _ v2 ⟨_, k', rfl, ⟨⟨xo, xa, xs, xn, xd, xf, xm, xr, xy, xq, xk, xc⟩, rfl, hx⟩, hkp, hrd, rfl⟩
    have S2 := Lib.hid (S0.out.call hkp hrd)
    have R2 := Lib.hid (R0.out.call hkp NB)
    have HN := Lib.hid hx
    clear hkp hrd hx
    unfold nv
    obtain ⟨r0, r1, r2, r3, r4, r5, r6, r7, r8, r9, q0, q1, q2, q3, q4, q5, q6, q7, q8, q9⟩ := R2.out
    go_wp2_with fail
    refine (?_ : ∀ F : World, B10 F w.heap.size (.int .i64 xo) (.int .i64 xa) (.string xs) (.int .i64 xn) (.int .i64 xd) (.bool xf) (.int .i64 xm) (.int .i64 xr) (.int .i64 xy) (.slice xq xk xc) → Sx w F b p cap qb ts En mb k' → Kfr V.heap.size v2 F → bodyPost _ _ _ _ _ F) _ (R2.out.put _ _ _ _ _ _ _ _ _ _) ?_ ?_
    · intro F hF hS hK
      obtain ⟨y0, y1, y2, y3, y4, y5, y6, y7, y8, y9, -, -, -, -, -, -, -, -, -, -⟩ := hF
      exact bodyPost_ret (v := .agg #[.int .i64 xo, .int .i64 xa, .string xs, .int .i64 xn, .int .i64 xd, .bool xf, .int .i64 xm, .int .i64 xr, .int .i64 xy, .slice xq xk xc]) (by simp [results, Tryz.results129, go_sem, y0, y1, y2, y3, y4, y5, y6, y7, y8, y9]) rfl (PostO.ok rfl ⟨⟨xo, xa, xs, xn, xd, xf, xm, xr, xy, xq, xk, xc⟩, rfl, NodeV.keep hK (by omega) _ _ HN.out⟩ hS)
    · exact ((((((((((S2.out.other (Nat.le_refl _) 0 _).other (Nat.le_refl _) 1 _).other (Nat.le_refl _) 2 _).other (Nat.le_refl _) 3 _).other (Nat.le_refl _) 4 _).other (Nat.le_refl _) 5 _).other (Nat.le_refl _) 6 _).other (Nat.le_refl _) 7 _).other (Nat.le_refl _) 8 _).other (Nat.le_refl _) 9 _)
    · exact (((((((((((Kfr.refl V.heap.size _).set (by omega) 0 none _).set (by omega) 1 none _).set (by omega) 2 none _).set (by omega) 3 none _).set (by omega) 4 none _).set (by omega) 5 none _).set (by omega) 6 none _).set (by omega) 7 none _).set (by omega) 8 none _).set (by omega) 9 none _)
set_option maxRecDepth 100000 in
set_option maxHeartbeats 4000000 in
theorem term_fwd (o : Out Tree) (w : World) (h : Rd w b p cap qb ts En mb k) (HK : ∀ w, Rd w b p cap qb ts En mb k → Calls Tryz.prog 92 #[.pointer (some ⟨b, 0, none⟩), .int .i64 5, .func (.func 147) #[.pointer (some ⟨b, 0, none⟩)] #[]] w fun e w' => PostO w b p cap qb ts En mb (vX w.heap.size (offs ts En)) o e w') :
    Calls Tryz.prog 139 #[.pointer (some ⟨b, 0, none⟩)] w fun e w' => PostO w b p cap qb ts En mb (vX w.heap.size (offs ts En)) o e w' := by
  have hmf : ∀ (fn : Fn) (first cap : Array Value) (w : World), (Instr.makeFunc fn first cap).run Tryz.prog w = .ok (.func fn first cap) w := fun _ _ _ _ => rfl
  have KR := Lib.hid HK
  clear HK
  have S0 := Lib.hid ((Sx.start h).alloc (.cells #[.int .i64 0, .int .i64 0, .string ⟨#[]⟩, .int .i64 0, .int .i64 0, .bool false, .int .i64 0, .int .i64 0, .int .i64 0, .slice none 0 0] 36))
  have R0 := Lib.hid (B10.new w (.int .i64 0) (.int .i64 0) (.string ⟨#[]⟩) (.int .i64 0) (.int .i64 0) (.bool false) (.int .i64 0) (.int .i64 0) (.int .i64 0) (.slice none 0 0) 36)
  have NB : w.heap.size ≠ b := by have := h.lt; omega
  have B0 : (w.alloc (.cells #[.int .i64 0, .int .i64 0, .string ⟨#[]⟩, .int .i64 0, .int .i64 0, .bool false, .int .i64 0, .int .i64 0, .int .i64 0, .slice none 0 0] 36)).heap.size = w.heap.size + 1 := by simp
  clear h
  go_enter Tryz.func139, Tryz.ntmps139
  go_wp2_with fail
  change Calls _ _ _ (w.alloc (.cells #[.int .i64 0, .int .i64 0, .string ⟨#[]⟩, .int .i64 0, .int .i64 0, .bool false, .int .i64 0, .int .i64 0, .int .i64 0, .slice none 0 0] 36)) _
  generalize w.alloc (.cells #[.int .i64 0, .int .i64 0, .string ⟨#[]⟩, .int .i64 0, .int .i64 0, .bool false, .int .i64 0, .int .i64 0, .int .i64 0, .slice none 0 0] 36) = V at *
  refine (KR.out _ S0.out.rd).mono ?_
  cases o with
  | er E q m =>
    rintro _ v2 ⟨k', rfl, hkp, hrd, hm⟩
    have S2 := Lib.hid (S0.out.call hkp hrd)
    go_wp2_with fail
    exact bodyPost_panic rfl (PostO.er rfl rfl hm S2.out)
  | ok t r =>
    rintro _ v2 ⟨_, k', rfl, ⟨⟨xo, xa, xs, xn, xd, xf, xm, xr, xy, xq, xk, xc⟩, rfl, hx⟩, hkp, hrd, rfl⟩
    have S2 := Lib.hid (S0.out.call hkp hrd)
    have R2 := Lib.hid (R0.out.call hkp NB)
    have HN := Lib.hid hx
    clear hkp hrd hx
    unfold nv
    obtain ⟨r0, r1, r2, r3, r4, r5, r6, r7, r8, r9, q0, q1, q2, q3, q4, q5, q6, q7, q8, q9⟩ := R2.out
    go_wp2_with fail
    refine (?_ : ∀ F : World, B10 F w.heap.size (.int .i64 xo) (.int .i64 xa) (.string xs) (.int .i64 xn) (.int .i64 xd) (.bool xf) (.int .i64 xm) (.int .i64 xr) (.int .i64 xy) (.slice xq xk xc) → Sx w F b p cap qb ts En mb k' → Kfr V.heap.size v2 F → bodyPost _ _ _ _ _ F) _ (R2.out.put _ _ _ _ _ _ _ _ _ _) ?_ ?_
    · intro F hF hS hK
      obtain ⟨y0, y1, y2, y3, y4, y5, y6, y7, y8, y9, -, -, -, -, -, -, -, -, -, -⟩ := hF
      exact bodyPost_ret (v := .agg #[.int .i64 xo, .int .i64 xa, .string xs, .int .i64 xn, .int .i64 xd, .bool xf, .int .i64 xm, .int .i64 xr, .int .i64 xy, .slice xq xk xc]) (by simp [results, Tryz.results139, go_sem, y0, y1, y2, y3, y4, y5, y6, y7, y8, y9]) rfl (PostO.ok rfl ⟨⟨xo, xa, xs, xn, xd, xf, xm, xr, xy, xq, xk, xc⟩, rfl, NodeV.keep hK (by omega) _ _ HN.out⟩ hS)
    · exact ((((((((((S2.out.other (Nat.le_refl _) 0 _).other (Nat.le_refl _) 1 _).other (Nat.le_refl _) 2 _).other (Nat.le_refl _) 3 _).other (Nat.le_refl _) 4 _).other (Nat.le_refl _) 5 _).other (Nat.le_refl _) 6 _).other (Nat.le_refl _) 7 _).other (Nat.le_refl _) 8 _).other (Nat.le_refl _) 9 _)
    · exact (((((((((((Kfr.refl V.heap.size _).set (by omega) 0 none _).set (by omega) 1 none _).set (by omega) 2 none _).set (by omega) 3 none _).set (by omega) 4 none _).set (by omega) 5 none _).set (by omega) 6 none _).set (by omega) 7 none _).set (by omega) 8 none _).set (by omega) 9 none _)
end
end Go.Proofs.YtedbpjcglnkjmaaGreatDoor
namespace Go.Proofs.YtedbpjcglnkjmaaGreatDoor
open Go.RowKit Lx Pa

section
variable {b cap qb En mb : Nat} {p : Option Addr} {ts : List Tok}
theorem num_any {k : Nat} (w : World) (h : Rd w b p cap qb ts En mb k) (hk : (pk ts En k).k = 2) :
    Calls Tryz.prog 153 #[.pointer (some ⟨b, 0, none⟩)] w fun e w' => PostO w b p cap qb ts En mb (vX w.heap.size (offs ts En)) (numO M0 (pk ts En k) (ts.drop (k + 1))) e w' := by
  have hl : k < ts.length := pk_lt' (En := En) (by rw [hk]; decide)
  have hw : which units (ts.drop (k + 1)) = idx units (pk ts En (k + 1)).t := by
    unfold which
    rw [which_pk (En := En) h.ok units 0 (by decide)]
    cases idx units (pk ts En (k + 1)).t <;> rfl
  have hL : (ts.drop (k + 1)).length + 1 = ts.length - k := by rw [List.length_drop]; omega
  have hL2 : (ts.drop (k + 1)).length - 1 = ts.length - (k + 1 + 1) := by rw [List.length_drop]; omega
  unfold numO
  rw [hw, hL, hL2, List.tail_drop]
  cases hu : idx units (pk ts En (k + 1)).t with
  | none => exact num_none w h hk hu
  | some u =>
    simp only
    by_cases h2 : u = 2
    · subst h2
      rw [if_pos rfl]
      by_cases hz : (M0 (pk ts En k).n (pk ts En k).d).2.2 = 0
      · rw [if_pos hz]; exact num_cents w h hk hu hz
      · rw [if_neg hz]; exact num_centse w h hk hu hz
    · rw [if_neg h2]; exact num_unit w h hk u hu h2
/-- A method of the reader's that reads an expression of a level, where at most N tokens are left. -/
def RX (b : Nat) (p : Option Addr) (cap qb : Nat) (ts : List Tok) (En mb : Nat) (F : FuncId) (j : Job) (N : Nat) : Prop :=
  ∀ (k : Nat) (w : World), Rd w b p cap qb ts En mb k → ts.length - k ≤ N → Calls Tryz.prog F #[.pointer (some ⟨b, 0, none⟩)] w fun e w' => PostO w b p cap qb ts En mb (vX w.heap.size (offs ts En)) (rd M0 j (ts.drop k)) e w'
theorem factor_rx {N : Nat} (HX : ∀ (k : Nat) (w : World), Rd w b p cap qb ts En mb k → ts.length - k < N → Calls Tryz.prog 57 #[.pointer (some ⟨b, 0, none⟩)] w fun e w' => PostO w b p cap qb ts En mb (vX w.heap.size (offs ts En)) (rd M0 .ex (ts.drop k)) e w') :
    RX b p cap qb ts En mb 147 (.row 6) N := by
  intro k w h hN
  have e6 : rd M0 (.row 6) (ts.drop k) = factor M0 (rd M0 .ex) (ts.drop k) := by
    rw [rd_eq]
    simp only [Pa.step]
    rw [if_pos (by decide)]
  rw [e6, factor_pk (En := En) h.ok]
  by_cases h2 : (pk ts En k).k = 2
  · rw [if_pos h2]
    exact fac_num _ w h h2 fun w h => num_any w h h2
  · rw [if_neg h2]
    cases hp : isW sLp (ts.drop k)
    · rw [if_neg (by simp)]
      cases ht : isW kTrue (ts.drop k)
      · rw [if_neg (by simp)]
        cases hi : idx [kMin, kMax] (pk ts En k).t with
        | some i =>
          have ho : opAt 6 (pk ts En k).t = some (((7 + i : Nat) : Int), false) := by rw [opAt_six, hi]; rfl
          have hl : k < ts.length := by
            rcases Nat.lt_or_ge k ts.length with z | z
            · exact z
            · rw [pk_end z, idx_none_end] at hi; cases hi
          exact fac_call w h h2 hp ht _ ho _ fun w h' => call_any _ _ w h' fun k' w h'' hlt => HX k' w h'' (by omega)
        | none =>
          have ho : opAt 6 (pk ts En k).t = none := by rw [opAt_six, hi]; rfl
          have := fac_name w h h2 hp ht ho
          have e : (nameO (ts.drop k)).bind (fun nm r => Out.ok (Tree.mk 2 (ts.length - k) nm 0 0 1 []) r) = if isA (ts.drop k) = true then .ok (.mk 2 (ts.length - k) (pk ts En k).t 0 0 1 []) (ts.drop (k + 1)) else bad (ts.drop k) := by
            rw [nameO_pk (En := En) h.ok, pk_isA (En := En) h.ok]
            split <;> rfl
          rw [e] at this
          exact this
      · rw [if_pos rfl]
        exact fac_true w h h2 hp ht
    · rw [if_pos rfl]
      have hl : k < ts.length := by
        rcases Nat.lt_or_ge k ts.length with z | z
        · exact z
        · rw [List.drop_eq_nil_of_le z] at hp; cases hp
      exact fac_br w h h2 hp fun k' w h' hlt => HX k' w h' (by omega)
theorem enter_factor (args : Array Value) (w : World) : (callFunc 147 args).run Tryz.prog w = .ok (.enter 147 args) w := by kernel_rfl
theorem enter_term (args : Array Value) (w : World) : (callFunc 139 args).run Tryz.prog w = .ok (.enter 139 args) w := by kernel_rfl
theorem enter_not (args : Array Value) (w : World) : (callFunc 108 args).run Tryz.prog w = .ok (.enter 108 args) w := by kernel_rfl
theorem enter_and (args : Array Value) (w : World) : (callFunc 93 args).run Tryz.prog w = .ok (.enter 93 args) w := by kernel_rfl
theorem term_rx {N : Nat} (H : RX b p cap qb ts En mb 147 (.row 6) N) : RX b p cap qb ts En mb 139 (.row 5) N :=
  fun k w h hN => term_fwd _ w h fun w h => prow_any 5 (by decide) (by decide) N _ enter_factor H k w h hN
theorem sum_rx {N : Nat} (H : RX b p cap qb ts En mb 139 (.row 5) N) : RX b p cap qb ts En mb 129 (.row 4) N :=
  fun k w h hN => sum_fwd _ w h fun w h => prow_any 4 (by decide) (by decide) N _ enter_term H k w h hN
theorem comparison_rx {N : Nat} (H : RX b p cap qb ts En mb 129 (.row 4) N) : RX b p cap qb ts En mb 120 (.row 3) N :=
  fun k w h hN => comparison_any w h fun k' w h' hle => H k' w h' (by omega)
theorem not_rx {N : Nat} (H : RX b p cap qb ts En mb 120 (.row 3) N) : RX b p cap qb ts En mb 108 (.row 2) N := by
  suffices ∀ n, n ≤ N → RX b p cap qb ts En mb 108 (.row 2) n from this N (Nat.le_refl _)
  intro n
  induction n with
  | zero =>
    intro _ k w h hN
    have hw : isW kNot (ts.drop k) = false := by rw [List.drop_eq_nil_of_le (by omega)]; rfl
    rw [not_pk, if_neg (by rw [hw]; simp)]
    exact not_fwd _ w h hw fun w h => H k w h (by omega)
  | succ n ih =>
    intro hn k w h hN
    rw [not_pk]
    cases hw : isW kNot (ts.drop k)
    · rw [if_neg (by simp)]
      exact not_fwd _ w h hw fun w h => H k w h (by omega)
    · rw [if_pos rfl]
      exact not_yes w h hw fun w h => ih (by omega) (k + 1) w h (by omega)
theorem and_rx {N : Nat} (H : RX b p cap qb ts En mb 108 (.row 2) N) : RX b p cap qb ts En mb 93 (.row 1) N :=
  fun k w h hN => and_fwd _ w h fun w h => prow_any 1 (by decide) (by decide) N _ enter_not H k w h hN
theorem or_rx {N : Nat} (H : RX b p cap qb ts En mb 93 (.row 1) N) : RX b p cap qb ts En mb 77 (.row 0) N :=
  fun k w h hN => or_fwd _ w h fun w h => prow_any 0 (by decide) (by decide) N _ enter_and H k w h hN
theorem expr_rx : ∀ N, RX b p cap qb ts En mb 57 .ex N := by
  intro N
  induction N with
  | zero =>
    intro k w h hN
    have hw : isW kIf (ts.drop k) = false := by rw [List.drop_eq_nil_of_le (by omega)]; rfl
    rw [ex_pk, if_neg (by rw [hw]; simp)]
    exact expr_fwd _ w h hw fun w h => or_rx (and_rx (not_rx (comparison_rx (sum_rx (term_rx (factor_rx (N := 0) fun k w h hlt => absurd hlt (Nat.not_lt_zero _))))))) k w h hN
  | succ N ih =>
    intro k w h hN
    rw [ex_pk]
    have HX : ∀ (k : Nat) (w : World), Rd w b p cap qb ts En mb k → ts.length - k < N + 1 → Calls Tryz.prog 57 #[.pointer (some ⟨b, 0, none⟩)] w fun e w' => PostO w b p cap qb ts En mb (vX w.heap.size (offs ts En)) (rd M0 .ex (ts.drop k)) e w' := fun k w h hlt => ih k w h (by omega)
    cases hw : isW kIf (ts.drop k)
    · rw [if_neg (by simp)]
      exact expr_fwd _ w h hw fun w h => or_rx (and_rx (not_rx (comparison_rx (sum_rx (term_rx (factor_rx HX)))))) k w h hN
    · rw [if_pos rfl]
      exact expr_if w h hw fun k' w h' hlt => HX k' w h' (by omega)
theorem expr_any (k : Nat) (w : World) (h : Rd w b p cap qb ts En mb k) : Calls Tryz.prog 57 #[.pointer (some ⟨b, 0, none⟩)] w fun e w' => PostO w b p cap qb ts En mb (vX w.heap.size (offs ts En)) (rd M0 .ex (ts.drop k)) e w' := expr_rx _ k w h (Nat.le_refl _)
end
end Go.Proofs.YtedbpjcglnkjmaaGreatDoor
namespace Go.Proofs.YtedbpjcglnkjmaaGreatDoor
open Go.RowKit Lx Pa

theorem kids_get {w : World} {A : Nat → Prop} {ofs : Nat → Int} {b : Nat} : ∀ (ks : List Tree) (off i : Nat) (h : i < ks.length), KidsA w A ofs b off ks → ∃ x : NV, (∀ (j : Nat) (v : Value), x.cells[j]? = some v → w.cell? ⟨b, off + i * 10 + j, none⟩ = some v) ∧ NodeA w A ofs ks[i] x
  | k :: ks, off, 0, _, h => by
    simp only [KidsA] at h
    obtain ⟨⟨x, h1, h2⟩, -⟩ := h
    exact ⟨x, fun j v hv => by have := h1 j v hv; simpa using this, h2⟩
  | k :: ks, off, i + 1, hi, h => by
    simp only [KidsA] at h
    obtain ⟨x, h1, h2⟩ := kids_get ks (off + 10) i (by simpa using hi) h.2
    exact ⟨x, fun j v hv => by rw [show off + (i + 1) * 10 + j = off + 10 + i * 10 + j by omega]; exact h1 j v hv, by simpa using h2⟩
theorem sizL_take (l : List Tree) (i : Nat) (h : i < l.length) : sizL (l.take (i + 1)) = sizL (l.take i) + l[i].siz := by
  induction l generalizing i with
  | nil => cases h
  | cons k ks ih =>
    cases i with
    | zero => simp [sizL]
    | succ i =>
      have := ih i (by simpa using h)
      simp only [List.take_succ_cons, sizL, List.getElem_cons_succ]
      omega
theorem depL_take (l : List Tree) (i : Nat) (h : i < l.length) : depL (l.take (i + 1)) = max (depL (l.take i)) l[i].dep := by
  induction l generalizing i with
  | nil => cases h
  | cons k ks ih =>
    cases i with
    | zero => simp [depL]
    | succ i =>
      have := ih i (by simpa using h)
      simp only [List.take_succ_cons, depL, List.getElem_cons_succ]
      omega
theorem sizL_le (l : List Tree) (i : Nat) : sizL (l.take i) ≤ sizL l := by
  induction l generalizing i with
  | nil => simp
  | cons k ks ih =>
    cases i with
    | zero => simp [sizL]
    | succ i => have := ih i; simp only [List.take_succ_cons, sizL]; omega
mutual
theorem dep_le : ∀ t : Tree, t.dep ≤ t.siz
  | .mk _ _ _ _ _ _ ks => by simp only [Tree.dep, Tree.siz]; have := depL_le ks; omega
theorem depL_le : ∀ l : List Tree, depL l ≤ sizL l
  | [] => Nat.le_refl _
  | k :: ks => by simp only [depL, sizL]; have := dep_le k; have := depL_le ks; omega
end
theorem kids_few : ∀ l : List Tree, l.length ≤ sizL l
  | [] => Nat.le_refl _
  | .mk _ _ _ _ _ _ _ :: ks => by simp only [List.length_cons, sizL, Tree.siz]; have := kids_few ks; omega
set_option maxRecDepth 100000 in
set_option maxHeartbeats 8000000 in
theorem measure_any (N : Nat) : ∀ (t : Tree), t.siz ≤ N → t.siz ≤ 1000000 → ∀ (A : Nat → Prop) (ofs : Nat → Int) (x : NV) (w : World), NodeA w A ofs t x → Calls Tryz.prog 79 #[nv x] w fun e w' => e = .returned (.tuple #[.int .i64 (t.siz : Nat), .int .i64 (t.dep : Nat)]) ∧ RowKit.Below w.heap.size w w' := by
  induction N with
  | zero => intro t h; cases t; simp [Tree.siz] at h
  | succ N ih =>
    intro t hN hm A ofs x w hx
    obtain ⟨op, pl, nm, n0, d0, u0, ks⟩ := t
    simp only [Tree.siz, Tree.dep] at hN hm ⊢
    have hkl := kids_few ks
    have hdl := depL_le ks
    have KM := Lib.hid (fun (i : Nat) (hi : i < ks.length) => ih ks[i] (by have h1 := sizL_take ks i hi; have h2 := sizL_le ks (i + 1); omega) (by have h1 := sizL_take ks i hi; have h2 := sizL_le ks (i + 1); omega) A ofs)
    clear ih
    obtain ⟨xo, xa, xs, xn, xd, xf, xm, xr, xy, xq, xk, xc⟩ := x
    have hx2 := hx
    unfold NodeA at hx2
    obtain ⟨⟨-, -, -, -, -, -, -, -, -, hkk⟩, bq, off, hp, hK⟩ := hx2
    simp only at hkk hp
    subst hkk
    unfold nv
    obtain ⟨W1, hW1⟩ : ∃ W1, W1 = w.alloc (.cells #[.int .i64 xo, .int .i64 xa, .string xs, .int .i64 xn, .int .i64 xd, .bool xf, .int .i64 xm, .int .i64 xr, .int .i64 xy, .slice xq ks.length xc] 36) := ⟨_, rfl⟩
    have HB : Hid (RowKit.Below w.heap.size w W1) := by rw [hW1]; exact (Below.refl _ _).alloc (Nat.le_refl _) _
    have HK := Lib.hid hK
    have HP := Lib.hid hp
    clear hx hK hp
    go_enter Tryz.func79, Tryz.ntmps79
    go_wp2_with fail
    rw [← hW1]
    clear hW1
    go_loopg [2, 3, 11] ks.length (fun g v2 v3 v11 wr => ∃ i : Nat, i ≤ ks.length ∧ ks.length - i ≤ g ∧ v2 = .int .i64 (sizL (ks.take i) : Nat) ∧ v3 = .int .i64 (depL (ks.take i) : Nat) ∧ v11 = .int .i64 i ∧ Hid (RowKit.Below w.heap.size w wr))
    case atStart => exact ⟨0, Nat.zero_le _, by omega, by simp [sizL], by simp [depL], by simp, HB⟩
    case round =>
      obtain ⟨i, hi, hg, rfl, rfl, rfl, HW⟩ := hrel
      by_cases hlt : i < ks.length
      · have hz : (i : Int) < (ks.length : Int) := by omega
        have hq := (HP.out (by omega)).1
        have hbq := (HP.out (by omega)).2.2
        subst hq
        obtain ⟨⟨yo, ya, ys, yn, yd, yf, ym, yr, yy, yq, yk, yc⟩, hc, hn⟩ := kids_get ks off i hlt (KidsA.keep HW.out.size (fun j _ hj => HW.out.block j hj) (fun _ h _ => h) bq (HP.out (by omega)).2.1 hbq off ks HK.out)
        have z0 := hc 0 _ rfl
        have z1 := hc 1 _ rfl
        have z2 := hc 2 _ rfl
        have z3 := hc 3 _ rfl
        have z4 := hc 4 _ rfl
        have z5 := hc 5 _ rfl
        have z6 := hc 6 _ rfl
        have z7 := hc 7 _ rfl
        have z8 := hc 8 _ rfl
        have z9 := hc 9 _ rfl
        rw [Nat.add_zero] at z0
        have HN := Lib.hid hn
        clear hc hn
        have e1 : IntKind.i64.wrap ((sizL (ks.take i) : Int) + (ks[i].siz : Int)) = (sizL (ks.take (i + 1)) : Nat) := by
          have h1 := sizL_take ks i hlt
          have h2 := sizL_le ks (i + 1)
          rw [IntWalk.i64_in _ (by omega), h1]; rfl
        have e2 : IntKind.i64.wrap ((i : Int) + 1) = ((i + 1 : Nat) : Int) := by rw [IntWalk.i64_in _ (by omega)]; rfl
        have E3 : Hid (depL (ks.take (i + 1)) = max (depL (ks.take i)) ks[i].dep) := depL_take ks i hlt
        have bl := (Below.refl wr.heap.size wr).alloc (Nat.le_refl _) (.cells #[.int .i64 yo, .int .i64 ya, .string ys, .int .i64 yn, .int .i64 yd, .bool yf, .int .i64 ym, .int .i64 yr, .int .i64 yy, .slice yq yk yc] 36)
        have KQ := Lib.hid (KM.out i hlt _ _ (NodeA.bel bl _ _ HN.out))
        have HW2 := Lib.hid (HW.out.trans (bl.mono HW.out.size))
        clear bl HW HN
        generalize ks[i].siz = si at *
        generalize ks[i].dep = di at *
        go_wp2_with fail
        clear z0 z1 z2 z3 z4 z5 z6 z7 z8 z9
        refine KQ.out.mono ?_
        rintro _ v ⟨rfl, hb⟩
        have HW3 := Lib.hid (HW2.out.trans (hb.mono HW2.out.size))
        clear hb HW2 KQ
        go_wp2_with fail
        all_goals
          go_roundg (ks.length - (i + 1))
          case measure => omega
          case rel => exact ⟨i + 1, by omega, Nat.le_refl _, rfl, by rw [E3.out]; congr 1; omega, by simp, HW3⟩
      · have hz : ¬ (i : Int) < (ks.length : Int) := by omega
        have hie : i = ks.length := by omega
        subst hie
        rw [List.take_length]
        have e1 : IntKind.i64.wrap ((sizL ks : Int) + 1) = ((sizL ks + 1 : Nat) : Int) := by rw [IntWalk.i64_in _ (by omega)]; rfl
        have e2 : IntKind.i64.wrap ((depL ks : Int) + 1) = ((depL ks + 1 : Nat) : Int) := by rw [IntWalk.i64_in _ (by omega)]; rfl
        go_wp2_with fail
        exact bodyPost_ret (v := .tuple #[.int .i64 (sizL ks + 1 : Nat), .int .i64 (depL ks + 1 : Nat)]) (by simp [results, Tryz.results79, go_sem]) rfl ⟨rfl, HW.out⟩
set_option maxRecDepth 100000 in
set_option maxHeartbeats 2000000 in
theorem hold_ok (t : Tree) (hm : t.siz ≤ 1000000) (hb : big t = false) (A : Nat → Prop) (ofs : Nat → Int) (x : NV) (w : World) (hx : NodeA w A ofs t x) : Calls Tryz.prog 59 #[nv x] w fun e w' => e = .returned (.tuple #[]) ∧ RowKit.Below w.heap.size w w' := by
  have KM := Lib.hid (fun w hx => measure_any _ t (Nat.le_refl _) hm A ofs x w hx)
  unfold big at hb
  simp only [Bool.or_eq_false_iff, decide_eq_false_iff_not] at hb
  have h1 : decide ((200 : Int) < (t.siz : Int)) = false := decide_eq_false (by omega)
  have h2 : decide ((20 : Int) < (t.dep : Int)) = false := decide_eq_false (by omega)
  have h1' : ¬ (200 : Int) < (t.siz : Int) := by omega
  have h2' : ¬ (20 : Int) < (t.dep : Int) := by omega
  obtain ⟨xo, xa, xs, xn, xd, xf, xm, xr, xy, xq, xk, xc⟩ := x
  unfold nv at KM ⊢
  have bl := (Below.refl w.heap.size w).alloc (Nat.le_refl _) (.cells #[.int .i64 xo, .int .i64 xa, .string xs, .int .i64 xn, .int .i64 xd, .bool xf, .int .i64 xm, .int .i64 xr, .int .i64 xy, .slice xq xk xc] 36)
  have HX := Lib.hid (NodeA.bel bl _ _ hx)
  have HB := Lib.hid bl
  clear hx bl
  go_enter Tryz.func59, Tryz.ntmps59
  go_wp2_with fail
  generalize w.alloc (.cells #[.int .i64 xo, .int .i64 xa, .string xs, .int .i64 xn, .int .i64 xd, .bool xf, .int .i64 xm, .int .i64 xr, .int .i64 xy, .slice xq xk xc] 36) = v at *
  refine (KM.out _ HX.out).mono ?_
  rintro _ v2 ⟨rfl, hb2⟩
  have HB2 := Lib.hid (HB.out.trans (hb2.mono HB.out.size))
  clear hb2 HX KM
  go_wp2_with fail
  go_end0
  exact ⟨rfl, HB2.out⟩
set_option maxRecDepth 100000 in
set_option maxHeartbeats 2000000 in
theorem hold_er (t : Tree) (hm : t.siz ≤ 1000000) (hb : big t = true) (A : Nat → Prop) (ofs : Nat → Int) (x : NV) (w : World) (hx : NodeA w A ofs t x) : Calls Tryz.prog 59 #[nv x] w fun e w' => e = .panicked (failP 2 (ofs t.pl)) ∧ RowKit.Below w.heap.size w w' := by
  have KM := Lib.hid (fun w hx => measure_any _ t (Nat.le_refl _) hm A ofs x w hx)
  have ha : x.a = ofs t.pl := by cases t; unfold NodeA at hx; exact hx.1.2.1
  unfold big at hb
  simp only [Bool.or_eq_true, decide_eq_true_eq] at hb
  obtain ⟨xo, xa, xs, xn, xd, xf, xm, xr, xy, xq, xk, xc⟩ := x
  simp only at ha
  rw [← ha]
  unfold nv at KM ⊢
  have bl := (Below.refl w.heap.size w).alloc (Nat.le_refl _) (.cells #[.int .i64 xo, .int .i64 xa, .string xs, .int .i64 xn, .int .i64 xd, .bool xf, .int .i64 xm, .int .i64 xr, .int .i64 xy, .slice xq xk xc] 36)
  have HX := Lib.hid (NodeA.bel bl _ _ hx)
  have X := Lib.hid (B10.new w (.int .i64 xo) (.int .i64 xa) (.string xs) (.int .i64 xn) (.int .i64 xd) (.bool xf) (.int .i64 xm) (.int .i64 xr) (.int .i64 xy) (.slice xq xk xc) 36)
  have HB := Lib.hid bl
  clear hx bl ha
  by_cases h1 : (200 : Int) < (t.siz : Int)
  · have h1' : decide ((200 : Int) < (t.siz : Int)) = true := decide_eq_true h1
    go_enter Tryz.func59, Tryz.ntmps59
    go_wp2_with fail
    generalize w.alloc (.cells #[.int .i64 xo, .int .i64 xa, .string xs, .int .i64 xn, .int .i64 xd, .bool xf, .int .i64 xm, .int .i64 xr, .int .i64 xy, .slice xq xk xc] 36) = v at *
    refine (KM.out _ HX.out).mono ?_
    rintro _ v2 ⟨rfl, hb2⟩
    have HB2 := Lib.hid (HB.out.trans (hb2.mono HB.out.size))
    have x1 := (X.out.bel hb2).c1
    clear hb2 HX KM X
    go_wp2_with fail
    refine (fail_p _ _ _).mono ?_
    rintro _ _ ⟨rfl, rfl⟩
    go_wp2_with fail
    exact bodyPost_panic rfl ⟨rfl, HB2.out⟩
  · have h1' : decide ((200 : Int) < (t.siz : Int)) = false := decide_eq_false h1
    have h2 : (20 : Int) < (t.dep : Int) := by omega
    have h2' : decide ((20 : Int) < (t.dep : Int)) = true := decide_eq_true h2
    go_enter Tryz.func59, Tryz.ntmps59
    go_wp2_with fail
    generalize w.alloc (.cells #[.int .i64 xo, .int .i64 xa, .string xs, .int .i64 xn, .int .i64 xd, .bool xf, .int .i64 xm, .int .i64 xr, .int .i64 xy, .slice xq xk xc] 36) = v at *
    refine (KM.out _ HX.out).mono ?_
    rintro _ v2 ⟨rfl, hb2⟩
    have HB2 := Lib.hid (HB.out.trans (hb2.mono HB.out.size))
    have x1 := (X.out.bel hb2).c1
    clear hb2 HX KM X
    go_wp2_with fail
    refine (fail_p _ _ _).mono ?_
    rintro _ _ ⟨rfl, rfl⟩
    go_wp2_with fail
    exact bodyPost_panic rfl ⟨rfl, HB2.out⟩
end Go.Proofs.YtedbpjcglnkjmaaGreatDoor
