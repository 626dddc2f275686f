/-
  Mathematics of the parser: an expression has at most as many nodes as tokens were read.
  Contracts of the parser: limited, single.
  Contracts of the parser: leaveOut, finish.
  By-laws in memory: slices of facts, rules and errors of the call's own; an append onto one.
  Contract of the parser: fact.
  Mathematics of the parser: a declaration as the program reads it, and whole by-laws from there.
-/
import Derived.Test.YtedbpjcglnkjmaaGreatDoorZG
import Derived.Test.YtedbpjcglnkjmaaGreatDoorZA
import Derived.Maps.AppendAt
namespace Go.Proofs.YtedbpjcglnkjmaaGreatDoor
namespace Pa
open Lx

section
variable {M : Int → Int → Int × Int × Int}
theorem need_len {s : List UInt8} {ts r : List Tok} {u : Unit} (h : need s ts = .ok u r) : r.length + 1 = ts.length := by
  unfold need at h
  split at h
  · rename_i hw
    obtain ⟨t, q, rfl⟩ := isW_cons hw
    injection h with _ h
    subst h; rfl
  · cases h
theorem siz_step : ∀ (N : Nat) (j : Job) (ts : List Tok) (n : Tree) (r : List Tok), nd j ts.length ≤ N → rd M j ts = .ok n r → match j with
    | .loop _ _ m => n.siz + r.length ≤ m.siz + ts.length
    | _ => n.siz + r.length ≤ ts.length := by
  intro N
  induction N with
  | zero => intro j ts n r h; have := nd_pos j ts.length; omega
  | succ N ih =>
    intro j ts n r hN h
    rw [rd_eq] at h
    cases j with
    | ex =>
      simp only [step] at h
      by_cases hw : isW kIf ts = true
      · rw [if_pos hw] at h
        obtain ⟨t, q, rfl⟩ := isW_cons hw
        rw [List.tail_cons] at h
        obtain ⟨a, r1, h1, h⟩ := bind_inv h
        obtain ⟨_, r2, h2, h⟩ := bind_inv h
        obtain ⟨b, r3, h3, h⟩ := bind_inv h
        obtain ⟨_, r4, h4, h⟩ := bind_inv h
        obtain ⟨c, r5, h5, h⟩ := bind_inv h
        cases h
        have l2 := need_len h2
        have l4 := need_len h4
        have s1 := ih .ex q a r1 (by simp only [nd, List.length_cons] at hN ⊢; omega) h1
        simp only at s1
        have s3 := ih .ex r2 b r3 (by simp only [nd, List.length_cons] at hN ⊢; omega) h3
        simp only at s3
        have s5 := ih .ex r4 c _ (by simp only [nd, List.length_cons] at hN ⊢; omega) h5
        simp only at s5
        simp only [Tree.siz, sizL, List.length_cons]
        omega
      · rw [if_neg hw] at h
        exact ih (.row 0) ts n r (by simp only [nd] at hN ⊢; omega) h
    | row l =>
      simp only [step] at h
      by_cases h6 : 6 ≤ l
      · rw [if_pos h6] at h
        cases ts with
        | nil => cases h
        | cons t r0 =>
          simp only [factor] at h
          by_cases h2 : t.k = 2
          · simp only [h2, if_true] at h
            cases hu : which units r0 with
            | none =>
              rw [hu] at h
              cases h
              simp only [Tree.siz, sizL, List.length_cons]; omega
            | some u =>
              rw [hu] at h
              obtain ⟨t2, r2, rfl⟩ := which_cons hu
              simp only [] at h
              by_cases hu2 : u = 2
              · simp only [hu2, if_true] at h
                split at h
                · cases h; simp only [Tree.siz, sizL, List.length_cons, List.tail_cons]; omega
                · cases h
              · simp only [hu2, if_false] at h
                cases h; simp only [Tree.siz, sizL, List.length_cons, List.tail_cons]; omega
          · simp only [h2, if_false] at h
            split at h
            · cases h; simp only [Tree.siz, sizL, List.length_cons]; omega
            · split at h
              · cases h; simp only [Tree.siz, sizL, List.length_cons]; omega
              · split at h
                · obtain ⟨a, r1, h1, h⟩ := bind_inv h
                  obtain ⟨_, r2, h3, h⟩ := bind_inv h
                  cases h
                  have e := ih .ex r0 _ r1 (by simp only [nd, List.length_cons] at hN ⊢; omega) h1
                  simp only at e
                  have := need_len h3
                  simp only [List.length_cons]; omega
                · split at h
                  · cases h
                  · obtain ⟨_, r1, g1, h⟩ := bind_inv h
                    obtain ⟨a, r2, g2, h⟩ := bind_inv h
                    obtain ⟨_, r3, g3, h⟩ := bind_inv h
                    obtain ⟨b, r4, g4, h⟩ := bind_inv h
                    obtain ⟨_, r5, g5, h⟩ := bind_inv h
                    cases h
                    have l1 := need_len g1
                    have l3 := need_len g3
                    have l5 := need_len g5
                    have s2 := ih .ex r1 a r2 (by simp only [nd, List.length_cons] at hN ⊢; omega) g2
                    simp only at s2
                    have s4 := ih .ex r3 b r4 (by simp only [nd, List.length_cons] at hN ⊢; omega) g4
                    simp only at s4
                    simp only [Tree.siz, sizL, List.length_cons]
                    omega
      · rw [if_neg h6] at h
        by_cases h2 : l = 2
        · rw [if_pos h2] at h
          split at h
          · rename_i hw
            obtain ⟨t, q, rfl⟩ := isW_cons hw
            rw [List.tail_cons] at h
            obtain ⟨a, r1, h1, h⟩ := bind_inv h
            cases h
            have s1 := ih (.row 2) q a _ (by simp only [nd, List.length_cons] at hN ⊢; omega) h1
            simp only at s1
            simp only [Tree.siz, sizL, List.length_cons]; omega
          · exact ih (.row 3) ts n r (by simp only [nd] at hN ⊢; omega) h
        · rw [if_neg h2] at h
          obtain ⟨a, r1, h1, h⟩ := bind_inv h
          have e := ih (.row (l + 1)) ts a r1 (by simp only [nd] at hN ⊢; omega) h1
          simp only at e
          have g1 := good_rd (M := M) (.row (l + 1)) ts
          rw [h1] at g1
          have l1 := g1.len.2 rfl
          have e2 := ih (.loop l ts.length a) r1 n r (by simp only [nd] at hN ⊢; omega) h
          simp only at e2 ⊢
          omega
    | loop l pl m =>
      simp only [step] at h
      cases hk : which (signs l) ts with
      | none => rw [hk] at h; cases h; exact Nat.le_refl _
      | some i =>
        rw [hk] at h
        obtain ⟨t, r0, rfl⟩ := which_cons hk
        obtain ⟨a, r1, h1, h⟩ := bind_inv h
        rw [List.tail_cons] at h1
        have e := ih (.row (l + 1)) r0 a r1 (by simp only [nd, List.length_cons] at hN ⊢; omega) h1
        simp only at e
        have g1 := good_rd (M := M) (.row (l + 1)) r0
        rw [h1] at g1
        have l1 := g1.len.2 rfl
        split at h
        · cases h
          have hs : sizL (if 3 < i then [a, m] else [m, a]) = a.siz + m.siz := by
            split
            · simp only [sizL]; omega
            · simp only [sizL]; omega
          simp only [Tree.siz, hs, List.length_cons]
          omega
        · have e2 := ih (.loop l pl _) r1 n r (by simp only [nd, List.length_cons] at hN ⊢; omega) h
          simp only [Tree.siz, sizL, List.length_cons] at e2 ⊢
          omega
theorem siz_ex {ts r : List Tok} {n : Tree} (h : rd M .ex ts = .ok n r) : n.siz ≤ ts.length := by
  have := siz_step _ .ex ts n r (Nat.le_refl _) h
  simp only at this
  omega
end
/-- An expression that is the whole source. -/
def singleO (M : Int → Int → Int × Int × Int) (ts : List Tok) : Out Tree := (rd M .ex ts).bind fun n r => if r.length ≠ 0 then bad r else if big n then .er 2 n.pl r.length else .ok n r
end Pa
end Go.Proofs.YtedbpjcglnkjmaaGreatDoor
namespace Go.Proofs.YtedbpjcglnkjmaaGreatDoor
open Go.RowKit Lx Pa

section
variable {b cap qb En mb : Nat} {p : Option Addr} {ts : List Tok}
set_option maxRecDepth 100000 in
set_option maxHeartbeats 6000000 in
theorem limited_any (k : Nat) (w : World) (h : Rd w b p cap qb ts En mb k) : Calls Tryz.prog 89 #[.pointer (some ⟨b, 0, none⟩)] w fun e w' => PostO w b p cap qb ts En mb (vX w.heap.size (offs ts En)) (limited M0 (ts.drop k)) e w' := by
  have hbl : b < w.heap.size := h.lt
  have hmx := h.tk.max
  have KX := Lib.hid (fun w h => expr_any (b := b) (cap := cap) (qb := qb) (En := En) (mb := mb) (p := p) (ts := ts) k w h)
  generalize hO : limited M0 (ts.drop k) = O
  unfold limited at hO
  have HO := Lib.hid hO
  clear hO
  have S0 := Lib.hid ((Sx.start h).alloc (.cells #[.int .i64 0, .int .i64 0, .string ⟨#[]⟩, .int .i64 0, .int .i64 0, .bool false, .int .i64 0, .int .i64 0, .int .i64 0, .slice none 0 0] 36))
  have R0 := Lib.hid (B10.new w (.int .i64 0) (.int .i64 0) (.string ⟨#[]⟩) (.int .i64 0) (.int .i64 0) (.bool false) (.int .i64 0) (.int .i64 0) (.int .i64 0) (.slice none 0 0) 36)
  have NB : w.heap.size ≠ b := by have := h.lt; omega
  have B0 : (w.alloc (.cells #[.int .i64 0, .int .i64 0, .string ⟨#[]⟩, .int .i64 0, .int .i64 0, .bool false, .int .i64 0, .int .i64 0, .int .i64 0, .slice none 0 0] 36)).heap.size = w.heap.size + 1 := by simp
  clear h
  go_enter Tryz.func89, Tryz.ntmps89
  go_wp2_with fail
  change Calls _ _ _ (w.alloc (.cells #[.int .i64 0, .int .i64 0, .string ⟨#[]⟩, .int .i64 0, .int .i64 0, .bool false, .int .i64 0, .int .i64 0, .int .i64 0, .slice none 0 0] 36)) _
  generalize w.alloc (.cells #[.int .i64 0, .int .i64 0, .string ⟨#[]⟩, .int .i64 0, .int .i64 0, .bool false, .int .i64 0, .int .i64 0, .int .i64 0, .slice none 0 0] 36) = V at *
  refine (KX.out V S0.out.rd).mono ?_
  generalize ho : rd M0 .ex (ts.drop k) = oo at HO KX
  cases oo with
  | er E q m =>
    rintro _ v2 ⟨k', rfl, hkp, hrd, hm⟩
    have SE := Lib.hid (S0.out.call hkp hrd)
    go_wp2_with fail
    exact bodyPost_panic rfl (PostO.er HO.out.symm rfl hm SE.out)
  | ok n r =>
    rintro _ v2 ⟨_, k1, rfl, ⟨⟨xo, xa, xs, xn, xd, xf, xm, xr, xy, xq, xk, xc⟩, rfl, hx⟩, hkp, hrd, rfl⟩
    have hsz : n.siz ≤ 1000000 := by have := siz_ex ho; rw [List.length_drop] at this; omega
    have hsv := hkp.size
    have bl := (Below.refl v2.heap.size v2).alloc (Nat.le_refl _) (.cells #[.int .i64 xo, .int .i64 xa, .string xs, .int .i64 xn, .int .i64 xd, .bool xf, .int .i64 xm, .int .i64 xr, .int .i64 xy, .slice xq xk xc] 36)
    have S2 := Lib.hid ((S0.out.call hkp hrd).bel bl)
    have R2 := Lib.hid ((R0.out.call hkp NB).bel bl)
    have X2 := Lib.hid (B10.new v2 (.int .i64 xo) (.int .i64 xa) (.string xs) (.int .i64 xn) (.int .i64 xd) (.bool xf) (.int .i64 xm) (.int .i64 xr) (.int .i64 xy) (.slice xq xk xc) 36)
    have HN := Lib.hid (NodeA.bel bl _ _ hx)
    have NBX : v2.heap.size ≠ b := by omega
    have HO2 := HO.out
    rw [bind_ok] at HO2
    clear bl hkp hrd hx S0 R0 KX ho HO
    unfold nv
    obtain ⟨x0, x1, x2, x3, x4, x5, x6, x7, x8, x9, -, -, -, -, -, -, -, -, -, -⟩ := X2.out
    go_wp2_with fail
    generalize v2.alloc (.cells #[.int .i64 xo, .int .i64 xa, .string xs, .int .i64 xn, .int .i64 xd, .bool xf, .int .i64 xm, .int .i64 xr, .int .i64 xy, .slice xq xk xc] 36) = V2 at *
    cases hbg : big n with
    | true =>
      rw [hbg, if_pos rfl] at HO2
      have KH := Lib.hid (hold_er n hsz hbg _ _ ⟨xo, xa, xs, xn, xd, xf, xm, xr, xy, xq, xk, xc⟩ _ HN.out)
      unfold nv at KH
      refine KH.out.mono ?_
      rintro _ v4 ⟨rfl, hb4⟩
      have S4 := Lib.hid (S2.out.bel hb4)
      go_wp2_with fail
      refine bodyPost_panic rfl (PostO.er HO2.symm rfl ?_ S4.out)
      rw [List.length_drop]
    | false =>
      rw [hbg, if_neg (by simp)] at HO2
      have KH := Lib.hid (hold_ok n hsz hbg _ _ ⟨xo, xa, xs, xn, xd, xf, xm, xr, xy, xq, xk, xc⟩ _ HN.out)
      unfold nv at KH
      refine KH.out.mono ?_
      rintro _ v4 ⟨rfl, hb4⟩
      have S4 := Lib.hid (S2.out.bel hb4)
      have R4 := Lib.hid (R2.out.bel hb4)
      have X4 := Lib.hid (X2.out.bel hb4)
      have HN4 := Lib.hid (NodeA.bel hb4 _ _ HN.out)
      clear hb4 KH x0 x1 x2 x3 x4 x5 x6 x7 x8 x9
      obtain ⟨x0, x1, x2, x3, x4, x5, x6, x7, x8, x9, -, -, -, -, -, -, -, -, -, -⟩ := X4.out
      obtain ⟨r0, r1, r2, r3, r4, r5, r6, r7, r8, r9, q0, q1, q2, q3, q4, q5, q6, q7, q8, q9⟩ := R4.out
      go_wp2_with fail
      refine (?_ : ∀ F : World, B10 F w.heap.size (.int .i64 xo) (.int .i64 xa) (.string xs) (.int .i64 xn) (.int .i64 xd) (.bool xf) (.int .i64 xm) (.int .i64 xr) (.int .i64 xy) (.slice xq xk xc) → Sx w F b p cap qb ts En mb k1 → Kfr V.heap.size v4 F → bodyPost _ _ _ _ _ F) _ (R4.out.put _ _ _ _ _ _ _ _ _ _) ?_ ?_
      · intro F hF hS hK
        obtain ⟨y0, y1, y2, y3, y4, y5, y6, y7, y8, y9, -, -, -, -, -, -, -, -, -, -⟩ := hF
        exact bodyPost_ret (v := .agg #[.int .i64 xo, .int .i64 xa, .string xs, .int .i64 xn, .int .i64 xd, .bool xf, .int .i64 xm, .int .i64 xr, .int .i64 xy, .slice xq xk xc]) (by simp [results, Tryz.results89, go_sem, y0, y1, y2, y3, y4, y5, y6, y7, y8, y9]) rfl (PostO.ok HO2.symm ⟨⟨xo, xa, xs, xn, xd, xf, xm, xr, xy, xq, xk, xc⟩, rfl, NodeV.keep hK (by omega) _ _ HN4.out⟩ hS)
      · exact ((((((((((S4.out.other (Nat.le_refl _) 0 _).other (Nat.le_refl _) 1 _).other (Nat.le_refl _) 2 _).other (Nat.le_refl _) 3 _).other (Nat.le_refl _) 4 _).other (Nat.le_refl _) 5 _).other (Nat.le_refl _) 6 _).other (Nat.le_refl _) 7 _).other (Nat.le_refl _) 8 _).other (Nat.le_refl _) 9 _)
      · exact (((((((((((Kfr.refl V.heap.size _).set (by omega) 0 none _).set (by omega) 1 none _).set (by omega) 2 none _).set (by omega) 3 none _).set (by omega) 4 none _).set (by omega) 5 none _).set (by omega) 6 none _).set (by omega) 7 none _).set (by omega) 8 none _).set (by omega) 9 none _)
set_option maxRecDepth 100000 in
set_option maxHeartbeats 6000000 in
theorem single_any (k : Nat) (w : World) (h : Rd w b p cap qb ts En mb k) : Calls Tryz.prog 34 #[.pointer (some ⟨b, 0, none⟩)] w fun e w' => PostO w b p cap qb ts En mb (vX w.heap.size (offs ts En)) (singleO M0 (ts.drop k)) e w' := by
  have hbl : b < w.heap.size := h.lt
  have hmx := h.tk.max
  have KX := Lib.hid (fun w h => expr_any (b := b) (cap := cap) (qb := qb) (En := En) (mb := mb) (p := p) (ts := ts) k w h)
  generalize hO : singleO M0 (ts.drop k) = O
  unfold singleO at hO
  have HO := Lib.hid hO
  clear hO
  have S0 := Lib.hid ((Sx.start h).alloc (.cells #[.int .i64 0, .int .i64 0, .string ⟨#[]⟩, .int .i64 0, .int .i64 0, .bool false, .int .i64 0, .int .i64 0, .int .i64 0, .slice none 0 0] 36))
  have R0 := Lib.hid (B10.new w (.int .i64 0) (.int .i64 0) (.string ⟨#[]⟩) (.int .i64 0) (.int .i64 0) (.bool false) (.int .i64 0) (.int .i64 0) (.int .i64 0) (.slice none 0 0) 36)
  have NB : w.heap.size ≠ b := by have := h.lt; omega
  have B0 : (w.alloc (.cells #[.int .i64 0, .int .i64 0, .string ⟨#[]⟩, .int .i64 0, .int .i64 0, .bool false, .int .i64 0, .int .i64 0, .int .i64 0, .slice none 0 0] 36)).heap.size = w.heap.size + 1 := by simp
  clear h
  go_enter Tryz.func34, Tryz.ntmps34
  go_wp2_with fail
  change Calls _ _ _ (w.alloc (.cells #[.int .i64 0, .int .i64 0, .string ⟨#[]⟩, .int .i64 0, .int .i64 0, .bool false, .int .i64 0, .int .i64 0, .int .i64 0, .slice none 0 0] 36)) _
  generalize w.alloc (.cells #[.int .i64 0, .int .i64 0, .string ⟨#[]⟩, .int .i64 0, .int .i64 0, .bool false, .int .i64 0, .int .i64 0, .int .i64 0, .slice none 0 0] 36) = V at *
  refine (KX.out V S0.out.rd).mono ?_
  generalize ho : rd M0 .ex (ts.drop k) = oo at HO KX
  cases oo with
  | er E q m =>
    rintro _ v2 ⟨k', rfl, hkp, hrd, hm⟩
    have SE := Lib.hid (S0.out.call hkp hrd)
    go_wp2_with fail
    exact bodyPost_panic rfl (PostO.er HO.out.symm rfl hm SE.out)
  | ok n r =>
    rintro _ v2 ⟨_, k1, rfl, ⟨⟨xo, xa, xs, xn, xd, xf, xm, xr, xy, xq, xk, xc⟩, rfl, hx⟩, hkp, hrd, rfl⟩
    have hsz : n.siz ≤ 1000000 := by have := siz_ex ho; rw [List.length_drop] at this; omega
    have hsv := hkp.size
    have bl := (Below.refl v2.heap.size v2).alloc (Nat.le_refl _) (.cells #[.int .i64 xo, .int .i64 xa, .string xs, .int .i64 xn, .int .i64 xd, .bool xf, .int .i64 xm, .int .i64 xr, .int .i64 xy, .slice xq xk xc] 36)
    have S2 := Lib.hid ((S0.out.call hkp hrd).bel bl)
    have R2 := Lib.hid ((R0.out.call hkp NB).bel bl)
    have X2 := Lib.hid (B10.new v2 (.int .i64 xo) (.int .i64 xa) (.string xs) (.int .i64 xn) (.int .i64 xd) (.bool xf) (.int .i64 xm) (.int .i64 xr) (.int .i64 xy) (.slice xq xk xc) 36)
    have HN := Lib.hid (NodeA.bel bl _ _ hx)
    have NBX : v2.heap.size ≠ b := by omega
    have HO2 := HO.out
    rw [bind_ok] at HO2
    clear bl hkp hrd hx S0 R0 KX ho HO
    unfold nv
    go_wp2_with fail
    generalize v2.alloc (.cells #[.int .i64 xo, .int .i64 xa, .string xs, .int .i64 xn, .int .i64 xd, .bool xf, .int .i64 xm, .int .i64 xr, .int .i64 xy, .slice xq xk xc] 36) = V2 at *
    refine (atEnd_any _ S2.out.rd).mono ?_
    rintro _ v3 ⟨rfl, hb3⟩
    have S3 := Lib.hid (S2.out.bel hb3)
    have R3 := Lib.hid (R2.out.bel hb3)
    have X3 := Lib.hid (X2.out.bel hb3)
    have HN3 := Lib.hid (NodeA.bel hb3 _ _ HN.out)
    have hkl := S3.out.rd.kl
    rw [List.length_drop] at HO2
    clear hb3 S2 R2 X2 HN
    by_cases he : k1 = ts.length
    · rw [if_neg (by omega)] at HO2
      rw [decide_eq_true he]
      obtain ⟨x0, x1, x2, x3, x4, x5, x6, x7, x8, x9, -, -, -, -, -, -, -, -, -, -⟩ := X3.out
      go_wp2_with fail
      cases hbg : big n with
      | true =>
        rw [hbg, if_pos rfl] at HO2
        have KH := Lib.hid (hold_er n hsz hbg _ _ ⟨xo, xa, xs, xn, xd, xf, xm, xr, xy, xq, xk, xc⟩ _ HN3.out)
        unfold nv at KH
        refine KH.out.mono ?_
        rintro _ v4 ⟨rfl, hb4⟩
        have S4 := Lib.hid (S3.out.bel hb4)
        go_wp2_with fail
        exact bodyPost_panic rfl (PostO.er HO2.symm rfl rfl S4.out)
      | false =>
        rw [hbg, if_neg (by simp)] at HO2
        have KH := Lib.hid (hold_ok n hsz hbg _ _ ⟨xo, xa, xs, xn, xd, xf, xm, xr, xy, xq, xk, xc⟩ _ HN3.out)
        unfold nv at KH
        refine KH.out.mono ?_
        rintro _ v4 ⟨rfl, hb4⟩
        have S4 := Lib.hid (S3.out.bel hb4)
        have R4 := Lib.hid (R3.out.bel hb4)
        have X4 := Lib.hid (X3.out.bel hb4)
        have HN4 := Lib.hid (NodeA.bel hb4 _ _ HN3.out)
        clear hb4 KH x0 x1 x2 x3 x4 x5 x6 x7 x8 x9
        obtain ⟨x0, x1, x2, x3, x4, x5, x6, x7, x8, x9, -, -, -, -, -, -, -, -, -, -⟩ := X4.out
        obtain ⟨r0, r1, r2, r3, r4, r5, r6, r7, r8, r9, q0, q1, q2, q3, q4, q5, q6, q7, q8, q9⟩ := R4.out
        go_wp2_with fail
        refine (?_ : ∀ F : World, B10 F w.heap.size (.int .i64 xo) (.int .i64 xa) (.string xs) (.int .i64 xn) (.int .i64 xd) (.bool xf) (.int .i64 xm) (.int .i64 xr) (.int .i64 xy) (.slice xq xk xc) → Sx w F b p cap qb ts En mb k1 → Kfr V.heap.size v4 F → bodyPost _ _ _ _ _ F) _ (R4.out.put _ _ _ _ _ _ _ _ _ _) ?_ ?_
        · intro F hF hS hK
          obtain ⟨y0, y1, y2, y3, y4, y5, y6, y7, y8, y9, -, -, -, -, -, -, -, -, -, -⟩ := hF
          exact bodyPost_ret (v := .agg #[.int .i64 xo, .int .i64 xa, .string xs, .int .i64 xn, .int .i64 xd, .bool xf, .int .i64 xm, .int .i64 xr, .int .i64 xy, .slice xq xk xc]) (by simp [results, Tryz.results34, go_sem, y0, y1, y2, y3, y4, y5, y6, y7, y8, y9]) rfl (PostO.ok HO2.symm ⟨⟨xo, xa, xs, xn, xd, xf, xm, xr, xy, xq, xk, xc⟩, rfl, NodeV.keep hK (by omega) _ _ HN4.out⟩ hS)
        · exact ((((((((((S4.out.other (Nat.le_refl _) 0 _).other (Nat.le_refl _) 1 _).other (Nat.le_refl _) 2 _).other (Nat.le_refl _) 3 _).other (Nat.le_refl _) 4 _).other (Nat.le_refl _) 5 _).other (Nat.le_refl _) 6 _).other (Nat.le_refl _) 7 _).other (Nat.le_refl _) 8 _).other (Nat.le_refl _) 9 _)
        · exact (((((((((((Kfr.refl V.heap.size _).set (by omega) 0 none _).set (by omega) 1 none _).set (by omega) 2 none _).set (by omega) 3 none _).set (by omega) 4 none _).set (by omega) 5 none _).set (by omega) 6 none _).set (by omega) 7 none _).set (by omega) 8 none _).set (by omega) 9 none _)
    · rw [if_pos (by omega)] at HO2
      rw [decide_eq_false he]
      go_wp2_with fail
      refine (refuse_any _ S3.out.rd).mono ?_
      rintro _ v4 ⟨rfl, hb4⟩
      have S4 := Lib.hid (S3.out.bel hb4)
      go_wp2_with fail
      rw [← HO2]
      exact bodyPost_panic rfl (PostO.bad rfl S4.out)
end
end Go.Proofs.YtedbpjcglnkjmaaGreatDoor
namespace Go.Proofs.YtedbpjcglnkjmaaGreatDoor
open Go.RowKit Lx Pa

/-- The end of a declaration: its semicolon, unless there are too many declarations. -/
def finO (full : Bool) (pl : Nat) (ts : List Tok) : Out Unit := if isW sSc ts = true then (if full = true then .er 2 pl ts.length else .ok () ts.tail) else bad ts
section
variable {b cap qb En mb : Nat} {p : Option Addr} {ts : List Tok}
set_option maxRecDepth 100000 in
set_option maxHeartbeats 3000000 in
theorem finish_any {k : Nat} (full : Bool) (pl : Nat) (w : World) (h : Rd w b p cap qb ts En mb k) : Calls Tryz.prog 88 #[.pointer (some ⟨b, 0, none⟩), .int .i64 (offs ts En pl), .bool full] w fun e w' => PostO w b p cap qb ts En mb vU (finO full pl (ts.drop k)) e w' := by
  have KP := Lib.hid (peek_any w h)
  have S0 := Lib.hid (Sx.start h)
  have hf := fld_text
  have hk1 := succ_in h.kl h.tk.max
  have HL : Hid ((pk ts En k).t = sSc → k < ts.length) := fun e => pk_lt (En := En) (by rw [e]; decide)
  unfold finO
  rw [pk_isW (En := En) h.ok (by decide), List.tail_drop, List.length_drop]
  clear h
  obtain ⟨at0, hat⟩ : ∃ z, z = offs ts En pl := ⟨_, rfl⟩
  rw [← hat]
  have HAT := Lib.hid hat
  clear hat
  generalize pk ts En k = t at *
  obtain ⟨tk, ta, tt, tn, td⟩ := t
  unfold tokV at KP
  by_cases hx : tt = sSc
  · have hl := HL.out hx
    subst hx
    have e1 : ((bs sSc).toList == [59]) = true := by rw [bs_list]; rfl
    have e2 : (sSc == sSc) = true := by simp
    rw [e2, if_pos rfl]
    clear e2 HL
    cases full
    · rw [if_neg (by simp)]
      go_enter Tryz.func88, Tryz.ntmps88
      go_wp2_with fail
      refine KP.out.mono ?_
      rintro _ v ⟨rfl, hb⟩
      have S1 := Lib.hid (S0.out.bel hb)
      clear hb KP S0
      obtain ⟨-, c1, -, -, f1, -, -, -, -, -, -⟩ := S1.out.rd
      go_wp2_with fail
      go_end0
      exact PostO.ok rfl rfl (S1.out.next hl)
    · rw [if_pos rfl]
      go_enter Tryz.func88, Tryz.ntmps88
      go_wp2_with fail
      refine KP.out.mono ?_
      rintro _ v ⟨rfl, hb⟩
      have S1 := Lib.hid (S0.out.bel hb)
      clear hb KP S0
      go_wp2_with fail
      refine (fail_p _ _ _).mono ?_
      rintro _ _ ⟨rfl, rfl⟩
      go_wp2_with fail
      exact bodyPost_panic rfl (PostO.er rfl HAT.out rfl S1.out)
  · have e1 : ((bs tt).toList == [59]) = false := by rw [bs_list]; simpa [sSc] using hx
    have e2 : (tt == sSc) = false := by simpa using hx
    rw [e2, if_neg (by simp)]
    clear e2 HL
    go_enter Tryz.func88, Tryz.ntmps88
    go_wp2_with fail
    refine KP.out.mono ?_
    rintro _ v ⟨rfl, hb⟩
    have S1 := Lib.hid (S0.out.bel hb)
    clear hb KP S0
    go_wp2_with fail
    refine (refuse_any _ S1.out.rd).mono ?_
    rintro _ v2 ⟨rfl, hb⟩
    have S2 := Lib.hid (S1.out.bel hb)
    go_wp2_with fail
    exact bodyPost_panic rfl (PostO.bad rfl S2.out)
set_option maxRecDepth 100000 in
set_option maxHeartbeats 3000000 in
theorem leaveOut_any (k : Nat) (w : World) (h : Rd w b p cap qb ts En mb k) : Calls Tryz.prog 46 #[.pointer (some ⟨b, 0, none⟩)] w fun e w' => e = .returned (.tuple #[]) ∧ ∃ k', Kept b w w' ∧ Rd w' b p cap qb ts En mb k' ∧ ts.drop k' = skip (ts.drop k) := by
  have hok := h.ok
  have hmx := h.tk.max
  have KE := Lib.hid (fun k w h => atEnd_any (b := b) (cap := cap) (qb := qb) (En := En) (mb := mb) (k := k) (p := p) (ts := ts) w h)
  have KS := Lib.hid (fun k w h => passes_any (b := b) (cap := cap) (qb := qb) (En := En) (mb := mb) (k := k) (p := p) (ts := ts) sSc (by decide) w h)
  have S0 := Lib.hid (Sx.start h)
  generalize hR : skip (ts.drop k) = R
  have HR := Lib.hid hR
  clear h hR
  go_enter Tryz.func46, Tryz.ntmps46
  go_wp2_with fail
  go_loopg [] ts.length (fun g wr => ∃ k' : Nat, ts.length - k' ≤ g ∧ Hid (Sx w wr b p cap qb ts En mb k') ∧ Hid (skip (ts.drop k') = R))
  case atStart => exact ⟨k, by omega, S0, HR⟩
  case round =>
    clear S0 HR
    obtain ⟨k', hg, S, HR⟩ := hrel
    have hkl := S.out.rd.kl
    by_cases he : k' = ts.length
    · have K1 := Lib.hid (KE.out k' wr S.out.rd)
      rw [decide_eq_true he] at K1
      have HR2 := HR.out
      rw [List.drop_eq_nil_of_le (by omega)] at HR2
      go_wp2_with fail
      refine K1.out.mono ?_
      rintro _ v ⟨rfl, hb⟩
      have S1 := Lib.hid (S.out.bel hb)
      go_wp2_with fail
      go_end0
      exact ⟨rfl, k', S1.out.kp, S1.out.rd, by rw [List.drop_eq_nil_of_le (by omega), ← HR2]; rfl⟩
    · have K1 := Lib.hid (KE.out k' wr S.out.rd)
      rw [decide_eq_false he] at K1
      have hlt : k' < ts.length := by omega
      have HR2 := HR.out
      rw [pk_cons (En := En) (by omega), skip] at HR2
      have hT : isT sSc (pk ts En k') = isW sSc (ts.drop k') := by rw [pk_cons (En := En) (show k' < ts.length by omega)]; rfl
      rw [hT] at HR2
      have hk1 := succ_in hkl hmx
      clear hT
      go_wp2_with fail
      refine K1.out.mono ?_
      rintro _ v ⟨rfl, hb⟩
      have S1 := Lib.hid (S.out.bel hb)
      clear hb K1 S
      have K2 := Lib.hid (KS.out k' v S1.out.rd)
      cases hw : isW sSc (ts.drop k')
      · rw [hw, if_neg (by simp)] at HR2
        rw [hw, if_neg (by simp)] at K2
        go_wp2_with fail
        refine K2.out.mono ?_
        rintro _ v2 ⟨rfl, hkp, hrd⟩
        have S2 := Lib.hid (S1.out.call hkp hrd)
        clear hkp hrd K2 S1
        obtain ⟨-, c1, -, -, f1, -, -, -, -, -, -⟩ := S2.out.rd
        go_wp2_with fail
        go_roundg (ts.length - (k' + 1))
        case measure => omega
        case rel => exact ⟨k' + 1, Nat.le_refl _, S2.out.next (k' := k' + 1) hlt, HR2⟩
      · rw [hw, if_pos rfl] at HR2
        rw [hw, if_pos rfl] at K2
        go_wp2_with fail
        refine K2.out.mono ?_
        rintro _ v2 ⟨rfl, hkp, hrd⟩
        have S2 := Lib.hid (S1.out.call hkp hrd)
        go_wp2_with fail
        go_end0
        exact ⟨rfl, k' + 1, S2.out.kp, S2.out.rd, HR2⟩
end
end Go.Proofs.YtedbpjcglnkjmaaGreatDoor
namespace Go.Proofs.YtedbpjcglnkjmaaGreatDoor
open Go.RowKit Lx Pa

def dV (ofs : Nat → Int) (d : Decl) : List Value := [.string (bs d.name), .bool (uF d.u), .int .i64 (uM d.u), .int .i64 (uA d.u), .int .i64 (uD d.u), .int .i64 d.lo, .int .i64 d.hi, .int .i64 (ofs d.pl)]
def rV (ofs : Nat → Int) (r : Rule) (x y : NV) : List Value := [.string (bs r.name), .int .i64 r.ver, .int .i64 (r.kind : Nat), .string (bs r.act), .int .i64 r.fr, .int .i64 r.un, .int .i64 r.known] ++ x.cells ++ y.cells ++ [.int .i64 (ofs r.pl)]
def gV (ofs : Nat → Int) (e : Int × Nat) : List Value := [.int .i64 (ofs e.2), .int .i64 e.1]
def rFlat (ofs : Nat → Int) : List Rule → List (NV × NV) → List Value
  | r :: rs, x :: xs => rV ofs r x.1 x.2 ++ rFlat ofs rs xs
  | _, _ => []
theorem rFlat_app (ofs : Nat → Int) (r : Rule) (x : NV × NV) (rs : List Rule) : ∀ xs : List (NV × NV), xs.length = rs.length → rFlat ofs (rs ++ [r]) (xs ++ [x]) = rFlat ofs rs xs ++ rV ofs r x.1 x.2 := by
  induction rs with
  | nil =>
    intro xs h
    cases xs with
    | nil => show rV ofs r x.1 x.2 ++ [] = [] ++ rV ofs r x.1 x.2; rw [List.append_nil, List.nil_append]
    | cons _ _ => cases h
  | cons r' rs ih =>
    intro xs h
    cases xs with
    | nil => cases h
    | cons x' xs =>
      show rV ofs r' x'.1 x'.2 ++ rFlat ofs (rs ++ [r]) (xs ++ [x]) = (rV ofs r' x'.1 x'.2 ++ rFlat ofs rs xs) ++ rV ofs r x.1 x.2
      rw [ih xs (Nat.succ.inj h), List.append_assoc]
theorem info_D : (Tryz.prog.info? 59).map (fun i => (i.zero.map (·.cells.size), i.size, decide (i.bytes ≤ 1000))) = some (some 8, 8, true) := by kernel_rfl
theorem info_R : (Tryz.prog.info? 63).map (fun i => (i.zero.map (·.cells.size), i.size, decide (i.bytes ≤ 1000))) = some (some 28, 28, true) := by kernel_rfl
theorem info_G : (Tryz.prog.info? 49).map (fun i => (i.zero.map (·.cells.size), i.size, decide (i.bytes ≤ 1000))) = some (some 2, 2, true) := by kernel_rfl
/-- One element is appended onto a slice of the call's own. -/
theorem run_app1 (sl E size : Nat) (hsl : Tryz.prog.underlying sl = some (.slice E)) (hi : (Tryz.prog.info? E).map (fun i => (i.zero.map (·.cells.size), i.size, decide (i.bytes ≤ 1000))) = some (some size, size, true)) (hs : 0 < size)
    (w : World) (base : Nat) (ty : TypeId) (v : Value) (n : Nat) (xs : List Value) (hown : w.ownsRow base E size v n xs) (b : Nat) (news : List Value) (hl : news.length = size) (hc : ∀ j u, news[j]? = some u → w.cell? ⟨b, j, none⟩ = some u) (h1 : ∀ u ∈ news, u.oneCell' = true) (hn : n ≤ 1000000) (hbase : base ≤ w.heap.size) :
    ∃ v' w', (Builtin.append_ #[sl, sl] ty #[v, .slice (some ⟨b, 0, none⟩) 1 1]).run Tryz.prog w = .ok v' w' ∧ w'.ownsRow base E size v' (n + 1) (xs ++ news) ∧ w.grownBy w' v.ownBlock ∧ (v'.ownBlock = v.ownBlock ∨ v'.ownBlock = some w.heap.size) := by
  obtain ⟨i, hi, hz⟩ := Option.map_eq_some_iff.1 hi
  simp only [Prod.mk.injEq, decide_eq_true_eq] at hz
  obtain ⟨hz1, hz2, hz3⟩ := hz
  obtain ⟨z, hz, hzs⟩ := Option.map_eq_some_iff.1 hz1
  obtain ⟨v', w', hr, h3, h4, _, h6⟩ := run_append_own_at (P := Tryz.prog) w base sl ty E i z size i.bytes hsl hi hz hz2 rfl hzs hs v n xs hown ⟨b, 0, none⟩ 1 1 news (by rw [hl]; omega)
    (fun j u hu => by rw [addr_add, Nat.zero_add]; exact hc j u hu) h1 (by unfold maxLen; omega) (by
      have : (n + 1) * i.bytes ≤ 1000001 * 1000 := Nat.mul_le_mul (by omega) hz3
      omega) hbase
  exact ⟨v', w', hr, h3, h4, h6⟩
/-- The blocks that operands of rules may lie in. -/
def NBl (base gx : Nat) (vd vr : Value) : Nat → Prop := fun j => base ≤ j ∧ vd.ownBlock ≠ some j ∧ vr.ownBlock ≠ some j ∧ j ≠ gx
/-- By-laws: block cb has both slices. -/
structure Cx (w : World) (base cb gx : Nat) (ofs : Nat → Int) (ds : List Decl) (rs : List Rule) (vd vr : Value) (ns : List (NV × NV)) : Prop where
  at2 : At2 w cb vd vr
  dr : w.ownsRow base 59 8 vd ds.length (ds.flatMap (dV ofs))
  rr : w.ownsRow base 63 28 vr rs.length (rFlat ofs rs ns)
  nl : ns.length = rs.length
  nd : ∀ (i : Nat) (h : i < rs.length) (h' : i < ns.length), NodeA w (NBl base gx vd vr) ofs rs[i].whn ns[i].1 ∧ NodeA w (NBl base gx vd vr) ofs rs[i].give ns[i].2
  dj : ∀ j, vd.ownBlock = some j → vr.ownBlock ≠ some j
  lt : cb < base
section
variable {w w' : World} {base cb gx : Nat} {ofs : Nat → Int} {ds : List Decl} {rs : List Rule} {vd vr : Value} {ns : List (NV × NV)}
theorem own_heap {E size n : Nat} {v : Value} {xs : List Value} (h : w.ownsRow base E size v n xs) (hb : ∀ j, v.ownBlock = some j → j < w.heap.size → w'.heap[j]? = w.heap[j]?) : w'.ownsRow base E size v n xs := by
  refine ⟨h.1, ?_⟩
  rcases h.2 with h0 | ⟨g, cap, cur, rfl, h1, h2, h3⟩
  · exact .inl h0
  · refine .inr ⟨g, cap, cur, rfl, h1, ?_, h3⟩
    rw [hb g rfl (Array.getElem?_eq_some_iff.1 h2).1]; exact h2
theorem At2.heap {r : Nat} {x y : Value} (h : At2 w r x y) (hb : w'.heap[r]? = w.heap[r]?) : At2 w' r x y :=
  ⟨(World.cell?_of_block (w := w) (a := ⟨r, 0, none⟩) hb).trans h.c0, (World.cell?_of_block (w := w) (a := ⟨r, 1, none⟩) hb).trans h.c1, (World.frozen?_of_block (w := w) (a := ⟨r, 0, none⟩) hb).trans h.f0, (World.frozen?_of_block (w := w) (a := ⟨r, 1, none⟩) hb).trans h.f1⟩
theorem Cx.keep (h : Cx w base cb gx ofs ds rs vd vr ns) (hs : w.heap.size ≤ w'.heap.size) (hb : ∀ j, j < w.heap.size → (j = cb ∨ base ≤ j) → w'.heap[j]? = w.heap[j]?) : Cx w' base cb gx ofs ds rs vd vr ns :=
  ⟨h.at2.heap (hb cb h.at2.lt (.inl rfl)), own_heap h.dr (fun j hj hj2 => hb j hj2 (.inr (h.dr.lt j hj).1)), own_heap h.rr (fun j hj hj2 => hb j hj2 (.inr (h.rr.lt j hj).1)), h.nl,
   fun i h1 h2 => ⟨NodeA.keep hs (fun j hj hj2 => hb j hj2 (.inr hj.1)) (fun _ h _ => h) _ _ (h.nd i h1 h2).1, NodeA.keep hs (fun j hj hj2 => hb j hj2 (.inr hj.1)) (fun _ h _ => h) _ _ (h.nd i h1 h2).2⟩, h.dj, h.lt⟩
/-- Something else, which lies in block gx if anywhere, was appended onto. -/
theorem Cx.app {vg : Value} {gx' : Nat} (h : Cx w base cb gx ofs ds rs vd vr ns) (hg : w.grownBy w' vg.ownBlock) (hvg : ∀ j, vg.ownBlock = some j → j = gx ∧ base ≤ j) (hd : vd.ownBlock ≠ some gx) (hr : vr.ownBlock ≠ some gx) (hx : gx' = gx ∨ gx' = w.heap.size) : Cx w' base cb gx' ofs ds rs vd vr ns := by
  have hlt := h.lt
  have kb : ∀ j, j < w.heap.size → (j = cb ∨ (base ≤ j ∧ j ≠ gx)) → w'.heap[j]? = w.heap[j]? := fun j hj hj2 => hg.block j hj (fun e => by
    have := hvg j e.symm
    rcases hj2 with rfl | ⟨_, h2⟩
    · omega
    · exact h2 this.1)
  have kn : ∀ {t : Tree} {x : NV}, NodeA w (NBl base gx vd vr) ofs t x → NodeA w' (NBl base gx' vd vr) ofs t x := fun hx' => NodeA.keep hg.size (fun j hj hj2 => kb j hj2 (.inr ⟨hj.1, hj.2.2.2⟩)) (fun j hj hj2 => ⟨hj.1, hj.2.1, hj.2.2.1, by
    rcases hx with rfl | rfl
    · exact hj.2.2.2
    · omega⟩) _ _ hx'
  exact ⟨h.at2.heap (kb cb h.at2.lt (.inl rfl)), own_heap h.dr (fun j hj hj2 => kb j hj2 (.inr ⟨(h.dr.lt j hj).1, fun e => hd (e ▸ hj)⟩)), own_heap h.rr (fun j hj hj2 => kb j hj2 (.inr ⟨(h.rr.lt j hj).1, fun e => hr (e ▸ hj)⟩)), h.nl, fun i h1 h2 => ⟨kn (h.nd i h1 h2).1, kn (h.nd i h1 h2).2⟩, h.dj, h.lt⟩
/-- One fact more: v' is what the append gave, in world w'. -/
theorem Cx.addD {d : Decl} {v' : Value} (h : Cx w base cb gx ofs ds rs vd vr ns) (hr : w'.ownsRow base 59 8 v' (ds.length + 1) (ds.flatMap (dV ofs) ++ dV ofs d)) (hg : w.grownBy w' vd.ownBlock) (ho : v'.ownBlock = vd.ownBlock ∨ v'.ownBlock = some w.heap.size) :
    Cx (w'.setCell ⟨cb, 0, none⟩ v') base cb gx ofs (ds ++ [d]) rs v' vr ns := by
  have hcb := h.at2.lt
  have hne : some cb ≠ vd.ownBlock := fun e => by have := (h.dr.lt cb e.symm).1; have := h.lt; omega
  have h2 := h.at2.heap (hg.block cb hcb hne)
  have hv' : ∀ j, v'.ownBlock = some j → base ≤ j ∧ j < w'.heap.size := fun j hj => hr.lt j hj
  have hset : ∀ j, j ≠ cb → (w'.setCell ⟨cb, 0, none⟩ v').heap[j]? = w'.heap[j]? := fun j hj => Below.heap_setCell _ _ _ _ hj
  have hlt := h.lt
  refine ⟨⟨by simp [go_sem, h2.c0], ?_, by rw [World.frozen?_setCell]; exact h2.f0, by rw [World.frozen?_setCell]; exact h2.f1⟩, ?_, ?_, h.nl, ?_, ?_, h.lt⟩
  · rw [World.cell?_setCell_other _ _ _ _ (by intro e; injection e with _ e2 _; cases e2)]; exact h2.c1
  · have := own_heap (w' := w'.setCell ⟨cb, 0, none⟩ v') hr (fun j hj _ => hset j (by have := (hv' j hj).1; omega))
    simpa using this
  · refine own_heap (w := w') (own_heap h.rr (fun j hj hj2 => hg.block j hj2 (fun e => h.dj j e.symm hj))) (fun j hj _ => hset j (by have := (h.rr.lt j hj).1; omega))
  · intro i h1 h3
    have hk : ∀ {t : Tree} {x : NV}, NodeA w (NBl base gx vd vr) ofs t x → NodeA (w'.setCell ⟨cb, 0, none⟩ v') (NBl base gx v' vr) ofs t x := fun hx =>
      NodeA.keep (by simpa [World.setCell] using hg.size) (fun j hj hj2 => (hset j (by have := hj.1; omega)).trans (hg.block j hj2 (fun e => hj.2.1 e.symm)))
        (fun j hj hj2 => ⟨hj.1, fun e => by rcases ho with ho | ho
                                            · rw [ho] at e; exact hj.2.1 e
                                            · rw [ho] at e; injection e with e; omega, hj.2.2⟩) _ _ hx
    exact ⟨hk (h.nd i h1 h3).1, hk (h.nd i h1 h3).2⟩
  · intro j hj hj2
    rcases ho with ho | ho
    · exact h.dj j (by rw [← ho]; exact hj) hj2
    · rw [ho] at hj
      injection hj with hj
      have := (h.rr.lt j hj2).2
      omega
/-- One rule more. -/
theorem Cx.addR {r : Rule} {x y : NV} {v' : Value} (h : Cx w base cb gx ofs ds rs vd vr ns) (hr : w'.ownsRow base 63 28 v' (rs.length + 1) (rFlat ofs rs ns ++ rV ofs r x y)) (hg : w.grownBy w' vr.ownBlock) (ho : v'.ownBlock = vr.ownBlock ∨ v'.ownBlock = some w.heap.size)
    (hx : NodeA w (NBl base gx vd vr) ofs r.whn x) (hy : NodeA w (NBl base gx vd vr) ofs r.give y) :
    Cx (w'.setCell ⟨cb, 1, none⟩ v') base cb gx ofs ds (rs ++ [r]) vd v' (ns ++ [(x, y)]) := by
  have hcb := h.at2.lt
  have hne : some cb ≠ vr.ownBlock := fun e => by have := (h.rr.lt cb e.symm).1; have := h.lt; omega
  have h2 := h.at2.heap (hg.block cb hcb hne)
  have hv' : ∀ j, v'.ownBlock = some j → base ≤ j ∧ j < w'.heap.size := fun j hj => hr.lt j hj
  have hset : ∀ j, j ≠ cb → (w'.setCell ⟨cb, 1, none⟩ v').heap[j]? = w'.heap[j]? := fun j hj => Below.heap_setCell _ _ _ _ hj
  have hlt := h.lt
  have hk : ∀ {t : Tree} {x : NV}, NodeA w (NBl base gx vd vr) ofs t x → NodeA (w'.setCell ⟨cb, 1, none⟩ v') (NBl base gx vd v') ofs t x := fun hx =>
    NodeA.keep (by simpa [World.setCell] using hg.size) (fun j hj hj2 => (hset j (by have := hj.1; omega)).trans (hg.block j hj2 (fun e => hj.2.2.1 e.symm)))
      (fun j hj hj2 => ⟨hj.1, hj.2.1, (fun e => by rcases ho with ho | ho
                                                   · rw [ho] at e; exact hj.2.2.1 e
                                                   · rw [ho] at e; injection e with e; omega), hj.2.2.2⟩) _ _ hx
  refine ⟨⟨?_, by simp [go_sem, h2.c1], by rw [World.frozen?_setCell]; exact h2.f0, by rw [World.frozen?_setCell]; exact h2.f1⟩, ?_, ?_, by simp [h.nl], ?_, ?_, h.lt⟩
  · rw [World.cell?_setCell_other _ _ _ _ (by intro e; injection e with _ e2 _; cases e2)]; exact h2.c0
  · refine own_heap (w := w') (own_heap h.dr (fun j hj hj2 => hg.block j hj2 (fun e => h.dj j hj e.symm))) (fun j hj _ => hset j (by have := (h.dr.lt j hj).1; omega))
  · have := own_heap (w' := w'.setCell ⟨cb, 1, none⟩ v') hr (fun j hj _ => hset j (by have := (hv' j hj).1; omega))
    rw [rFlat_app _ _ _ _ _ h.nl]
    simpa using this
  · intro i h1 h3
    by_cases hi : i < rs.length
    · rw [List.getElem_append_left hi, List.getElem_append_left (by rw [h.nl]; exact hi)]
      exact ⟨hk (h.nd i hi (by rw [h.nl]; exact hi)).1, hk (h.nd i hi (by rw [h.nl]; exact hi)).2⟩
    · have e : i = rs.length := by simp at h1; omega
      subst e
      have e1 : (rs ++ [r])[rs.length]'h1 = r := by simp
      have e2 : (ns ++ [(x, y)])[rs.length]'h3 = (x, y) := by
        have hn := h.nl
        simp [← hn]
      rw [e1, e2]
      exact ⟨hk hx, hk hy⟩
  · intro j hj hj2
    rcases ho with ho | ho
    · exact h.dj j hj (by rw [← ho]; exact hj2)
    · rw [ho] at hj2
      injection hj2 with hj2
      have := (h.dr.lt j hj).2
      omega
end
end Go.Proofs.YtedbpjcglnkjmaaGreatDoor
namespace Go.Proofs.YtedbpjcglnkjmaaGreatDoor
open Go.RowKit Lx Pa

/-- A box with a list of cells. -/
def BoxL (w : World) (b : Nat) (l : List Value) : Prop := ∀ (j : Nat) (v : Value), l[j]? = some v → w.cell? ⟨b, j, none⟩ = some v ∧ w.frozen? ⟨b, j, none⟩ = false
theorem BoxL.new (w : World) (l : List Value) (T : Nat) : BoxL (w.alloc (.cells l.toArray T)) w.heap.size l := fun j v hv => ⟨by rw [cell_of_row _ _ _ _ _ _ (heap_alloc_new w _), List.getElem?_toArray]; exact hv, by simp⟩
theorem BoxL.of {w w1 : World} {b : Nat} {l : List Value} (h : BoxL w b l) (hb : w1.heap[b]? = w.heap[b]?) : BoxL w1 b l := fun j v hv =>
  ⟨(World.cell?_of_block (w := w) (a := ⟨b, j, none⟩) hb).trans (h j v hv).1, (World.frozen?_of_block (w := w) (a := ⟨b, j, none⟩) hb).trans (h j v hv).2⟩
theorem BoxL.set {w : World} {b : Nat} {l : List Value} (h : BoxL w b l) (i : Nat) (y : Value) : BoxL (w.setCell ⟨b, i, none⟩ y) b (l.set i y) := fun j v hv => by
  rw [List.getElem?_set] at hv
  split at hv
  · rename_i e
    subst e
    split at hv
    · rename_i hl
      obtain ⟨h1, h2⟩ := h i l[i] (List.getElem?_eq_getElem hl)
      injection hv with hv
      subst hv
      exact ⟨World.cell?_setCell_same _ _ _ h1, by rw [World.frozen?_setCell]; exact h2⟩
    · cases hv
  · rename_i e
    obtain ⟨h1, h2⟩ := h j v hv
    exact ⟨by rw [World.cell?_setCell_other _ _ _ _ (by intro q; injection q with _ q _; omega)]; exact h1, by rw [World.frozen?_setCell]; exact h2⟩
theorem BoxL.other {w : World} {b r : Nat} {l : List Value} (h : BoxL w b l) (hr : b ≠ r) (o : Nat) (y : Value) : BoxL (w.setCell ⟨r, o, none⟩ y) b l := h.of (Below.heap_setCell _ _ _ _ hr)
theorem BoxL.lt {w : World} {b : Nat} {l : List Value} (h : BoxL w b l) (hl : 0 < l.length) : b < w.heap.size := World.block_lt_of_cell? _ _ (h 0 l[0] (List.getElem?_eq_getElem hl)).1
theorem BoxL.bel {w w1 : World} {b : Nat} {l : List Value} (h : BoxL w b l) (hl : 0 < l.length) (hB : RowKit.Below w.heap.size w w1) : BoxL w1 b l := h.of (hB.block b (h.lt hl))
theorem BoxL.call {w w1 : World} {b r : Nat} {l : List Value} (h : BoxL w r l) (hl : 0 < l.length) (hk : Kept b w w1) (hr : r ≠ b) : BoxL w1 r l := h.of (hk.block r (h.lt hl) hr)
/-- What lay lies as it lay, but for some blocks. -/
structure KeptS (S : Nat → Prop) (w w' : World) : Prop where
  os : w'.os = w.os
  tape : w'.tape = w.tape
  output : w'.output = w.output
  size : w.heap.size ≤ w'.heap.size
  block : ∀ k, k < w.heap.size → ¬ S k → w'.heap[k]? = w.heap[k]?
theorem wp_app {P : Program} {sl : Nat} {o : Oper} {a : Act} {w w' : World} {K : Act → World → Prop} {Q : Exit → Act → World → Prop} {v y v' : Value} (s z : Operand)
    (ho : o.op = .call { callee := .builtin .append, args := #[s, z], argTypes := #[sl, sl] }) (hs : a.eval s = v) (hz : a.eval z = y) (hr : (Builtin.append_ #[sl, sl] o.type #[v, y]).run P w = .ok v' w') (h : K (a.put o.dst v') w') : Oper.wp P o a w K Q := by
  unfold Oper.wp execOp
  simp only [ho, resolve, invoke, builtin, Sem.run_bind, Sem.run_pure, Result.andThen_ok, List.map_toArray, List.map_cons, List.map_nil, hs, hz, hr]
  exact h
theorem own_slice {w : World} {base E size n : Nat} {v : Value} {xs : List Value} (h : w.ownsRow base E size v n xs) : ∃ q cap, v = .slice q n cap := by
  rcases h.2 with ⟨rfl, rfl⟩ | ⟨g, cap, cur, rfl, _⟩
  · exact ⟨none, 0, rfl⟩
  · exact ⟨_, cap, rfl⟩
def factO (full : Bool) (pl : Nat) (ts : List Tok) : Out Decl := (nameO ts).bind fun nm r2 => (need sCo r2).bind fun _ r3 => (unitO r3).bind fun u r4 => (wholeO r4).bind fun lo r5 => (need kTo r5).bind fun _ r6 => (wholeO r6).bind fun hi r7 => (finO full pl r7).bind fun _ r8 => .ok ⟨nm, u, lo, hi, pl⟩ r8
/-- What a declaration leaves: more by-laws, or a panic. -/
def PostD (w0 : World) (b : Nat) (p : Option Addr) (cap qb : Nat) (ts : List Tok) (En mb base cb gx : Nat) (vd vr : Value) (ds : Pa.Item → List Decl) (rs : Pa.Item → List Rule) (o : Out Pa.Item) (e : Ending) (w' : World) : Prop :=
  match o with
  | .ok d r => ∃ k' vd' vr' ns', e = .returned (.tuple #[]) ∧ Rd w' b p cap qb ts En mb k' ∧ r = ts.drop k' ∧ Cx w' base cb gx (offs ts En) (ds d) (rs d) vd' vr' ns' ∧ KeptS (fun j => j = b ∨ j = cb ∨ vd.ownBlock = some j ∨ vr.ownBlock = some j) w0 w' ∧
      (vd'.ownBlock = vd.ownBlock ∨ ∃ j, vd'.ownBlock = some j ∧ w0.heap.size ≤ j) ∧ (vr'.ownBlock = vr.ownBlock ∨ ∃ j, vr'.ownBlock = some j ∧ w0.heap.size ≤ j)
  | .er E q m => ∃ k', e = .panicked (failP E (offs ts En q)) ∧ Kept b w0 w' ∧ Rd w' b p cap qb ts En mb k' ∧ m = ts.length - k'
def dSet (ds : List Decl) : Pa.Item → List Decl
  | Pa.Item.fact d => ds ++ [d]
  | Pa.Item.rule _ => ds
def rSet (rs : List Rule) : Pa.Item → List Rule
  | Pa.Item.fact _ => rs
  | Pa.Item.rule d => rs ++ [d]
section
variable {b cap qb En mb base cb gx : Nat} {p : Option Addr} {ts : List Tok} {ds : List Decl} {rs : List Rule} {vd vr : Value} {ns : List (NV × NV)}
theorem PostD.er {w w' : World} {D : Pa.Item → List Decl} {R : Pa.Item → List Rule} {o : Out Pa.Item} {E a : Int} {q m k' : Nat} (ho : o = .er E q m) (ha : a = offs ts En q) (hm : m = ts.length - k') (h : Sx w w' b p cap qb ts En mb k') : PostD w b p cap qb ts En mb base cb gx vd vr D R o (.panicked (failP E a)) w' := by
  subst ho; subst ha; exact ⟨k', rfl, h.kp, h.rd, hm⟩
set_option maxRecDepth 100000 in
set_option maxHeartbeats 12000000 in
theorem fact_any (full : Bool) (pl k : Nat) (w : World) (h : Rd w b p cap qb ts En mb k) (hC : Cx w base cb gx (offs ts En) ds rs vd vr ns) (hfl : ((ds.length : Int) == 12) = full) (hbb : b < base ∧ b ≠ cb ∧ mb < base ∧ mb ≠ cb ∧ (0 < ts.length → qb < base ∧ qb ≠ cb) ∧ base ≤ w.heap.size) (hdl : ds.length ≤ 1000) :
    Calls Tryz.prog 66 #[.pointer (some ⟨b, 0, none⟩), .pointer (some ⟨cb, 0, none⟩), .int .i64 (offs ts En pl)] w fun e w' => PostD w b p cap qb ts En mb base cb gx vd vr (dSet ds) (rSet rs) ((factO full pl (ts.drop k)).bind fun d r => .ok (Pa.Item.fact d) r) e w' := by
  have hbl : b < w.heap.size := h.lt
  have hcl := hC.at2.lt
  have hcb := hC.lt
  obtain ⟨q, dc, rfl⟩ := own_slice hC.dr
  have HC := Lib.hid hC
  have S0 := Lib.hid (Sx.start h)
  obtain ⟨at0, hat⟩ : ∃ z, z = offs ts En pl := ⟨_, rfl⟩
  rw [← hat]
  have HAT := Lib.hid hat
  generalize hO : ((factO full pl (ts.drop k)).bind fun d r => .ok (Pa.Item.fact d) r : Out Pa.Item) = O
  unfold factO at hO
  have bind_bind : ∀ {α β γ : Type} (x : Out α) (f : α → List Tok → Out β) (g : β → List Tok → Out γ), (x.bind f).bind g = x.bind fun a r => (f a r).bind g := fun x f g => by cases x <;> rfl
  simp only [bind_bind, bind_ok] at hO
  have HO := Lib.hid hO
  clear hO hat h hC bind_bind
  go_enter Tryz.func66, Tryz.ntmps66
  go_wp2_with fail
  have KS := Lib.hid (name_any _ S0.out.rd)
  generalize nameO (ts.drop k) = oo at KS HO 
  refine KS.out.mono ?_
  cases oo with
  | er E q m =>
    rintro _ v1 ⟨k', rfl, hkp, hrd, hm⟩
    have SE := Lib.hid (S0.out.call hkp hrd)
    go_wp2_with fail
    exact bodyPost_panic rfl (PostD.er HO.out.symm rfl hm SE.out)
  | ok nm r =>
    rintro _ v1 ⟨_, k1, rfl, rfl, hkp, hrd, rfl⟩
    have S1 := Lib.hid (S0.out.call hkp hrd)
    have hsz_v1 := hkp.size
    have HO2 := HO.out
    rw [bind_ok] at HO2
    replace HO := Lib.hid HO2
    clear HO2 hkp hrd KS
    have bl := (Below.refl v1.heap.size v1).alloc (Nat.le_refl _) (.cells #[.string (bs nm), .bool false, .int .i64 0, .int .i64 0, .int .i64 0, .int .i64 0, .int .i64 0, .int .i64 at0] 59)
    have S1b := Lib.hid (S1.out.bel bl)
    have D1 := Lib.hid (BoxL.new v1 [.string (bs nm), .bool false, .int .i64 0, .int .i64 0, .int .i64 0, .int .i64 0, .int .i64 0, .int .i64 at0] 59)
    clear bl S0 S1
    go_wp2_with fail
    change Calls _ _ _ (v1.alloc (.cells [.string (bs nm), .bool false, .int .i64 0, .int .i64 0, .int .i64 0, .int .i64 0, .int .i64 0, .int .i64 at0].toArray 59)) _
    have hv1 : (v1.alloc (.cells [.string (bs nm), .bool false, .int .i64 0, .int .i64 0, .int .i64 0, .int .i64 0, .int .i64 0, .int .i64 at0].toArray 59)).heap.size = v1.heap.size + 1 := by simp
    generalize v1.alloc (.cells [.string (bs nm), .bool false, .int .i64 0, .int .i64 0, .int .i64 0, .int .i64 0, .int .i64 0, .int .i64 at0].toArray 59) = V1 at *
    generalize v1.heap.size = dq at *
    have ND : dq ≠ b := by omega
    have KS := Lib.hid (need_any sCo (by decide) V1 S1b.out.rd)
    generalize need sCo (ts.drop k1) = oo at KS HO 
    refine KS.out.mono ?_
    cases oo with
    | er E q m =>
      rintro _ v2 ⟨k', rfl, hkp, hrd, hm⟩
      have SE := Lib.hid (S1b.out.call hkp hrd)
      go_wp2_with fail
      exact bodyPost_panic rfl (PostD.er HO.out.symm rfl hm SE.out)
    | ok u2 r =>
      rintro _ v2 ⟨_, k2, rfl, rfl, hkp, hrd, rfl⟩
      have S2 := Lib.hid (S1b.out.call hkp hrd)
      have D2 := Lib.hid (D1.out.call (by simp) hkp ND)
      have hsz_v2 := hkp.size
      have HO2 := HO.out
      rw [bind_ok] at HO2
      replace HO := Lib.hid HO2
      clear HO2 hkp hrd KS
      clear S1b D1
      go_wp2_with fail
      have KS := Lib.hid (unit_any v2 S2.out.rd)
      generalize unitO (ts.drop k2) = oo at KS HO 
      refine KS.out.mono ?_
      cases oo with
      | er E q m =>
        rintro _ v3 ⟨k', rfl, hkp, hrd, hm⟩
        have SE := Lib.hid (S2.out.call hkp hrd)
        go_wp2_with fail
        exact bodyPost_panic rfl (PostD.er HO.out.symm rfl hm SE.out)
      | ok u r =>
        rintro _ v3 ⟨_, k3, rfl, rfl, hkp, hrd, rfl⟩
        have S3 := Lib.hid (S2.out.call hkp hrd)
        have D3 := Lib.hid (D2.out.call (by simp) hkp ND)
        have hsz_v3 := hkp.size
        have HO2 := HO.out
        rw [bind_ok] at HO2
        replace HO := Lib.hid HO2
        clear HO2 hkp hrd KS
        clear S2 D2
        unfold uV
        obtain ⟨c1, f1⟩ := D3.out 1 _ rfl
        obtain ⟨c2, f2⟩ := D3.out 2 _ rfl
        obtain ⟨c3, f3⟩ := D3.out 3 _ rfl
        obtain ⟨c4, f4⟩ := D3.out 4 _ rfl
        go_wp2_with fail
        clear c1 c2 c3 c4 f1 f2 f3 f4
        have S3b := Lib.hid ((((S3.out.other (by omega) 1 (.bool (uF u))).other (by omega) 2 (.int .i64 (uM u))).other (by omega) 3 (.int .i64 (uA u))).other (by omega) 4 (.int .i64 (uD u)))
        have D3b := Lib.hid ((((D3.out.set 1 (.bool (uF u))).set 2 (.int .i64 (uM u))).set 3 (.int .i64 (uA u))).set 4 (.int .i64 (uD u)))
        simp only [List.set_cons_zero, List.set_cons_succ] at D3b
        clear S3 D3
        generalize (((v3.setCell ⟨dq, 1, none⟩ (.bool (uF u))).setCell ⟨dq, 2, none⟩ (.int .i64 (uM u))).setCell ⟨dq, 3, none⟩ (.int .i64 (uA u))).setCell ⟨dq, 4, none⟩ (.int .i64 (uD u)) = V3 at *
        have KS := Lib.hid (whole_any V3 S3b.out.rd)
        generalize wholeO (ts.drop k3) = oo at KS HO 
        refine KS.out.mono ?_
        cases oo with
        | er E q m =>
          rintro _ v4 ⟨k', rfl, hkp, hrd, hm⟩
          have SE := Lib.hid (S3b.out.call hkp hrd)
          go_wp2_with fail
          exact bodyPost_panic rfl (PostD.er HO.out.symm rfl hm SE.out)
        | ok lo r =>
          rintro _ v4 ⟨_, k4, rfl, rfl, hkp, hrd, rfl⟩
          have S4 := Lib.hid (S3b.out.call hkp hrd)
          have D4 := Lib.hid (D3b.out.call (by simp) hkp ND)
          have hsz_v4 := hkp.size
          have HO2 := HO.out
          rw [bind_ok] at HO2
          replace HO := Lib.hid HO2
          clear HO2 hkp hrd KS
          clear S3b D3b
          obtain ⟨c5, f5⟩ := D4.out 5 _ rfl
          go_wp2_with fail
          clear c5 f5
          have S4b := Lib.hid (S4.out.other (by omega) 5 (.int .i64 lo))
          have D4b := Lib.hid (D4.out.set 5 (.int .i64 lo))
          simp only [List.set_cons_zero, List.set_cons_succ] at D4b
          clear S4 D4
          generalize v4.setCell ⟨dq, 5, none⟩ (.int .i64 lo) = V4 at *
          have KS := Lib.hid (need_any kTo (by decide) V4 S4b.out.rd)
          generalize need kTo (ts.drop k4) = oo at KS HO 
          refine KS.out.mono ?_
          cases oo with
          | er E q m =>
            rintro _ v5 ⟨k', rfl, hkp, hrd, hm⟩
            have SE := Lib.hid (S4b.out.call hkp hrd)
            go_wp2_with fail
            exact bodyPost_panic rfl (PostD.er HO.out.symm rfl hm SE.out)
          | ok u5 r =>
            rintro _ v5 ⟨_, k5, rfl, rfl, hkp, hrd, rfl⟩
            have S5 := Lib.hid (S4b.out.call hkp hrd)
            have D5 := Lib.hid (D4b.out.call (by simp) hkp ND)
            have hsz_v5 := hkp.size
            have HO2 := HO.out
            rw [bind_ok] at HO2
            replace HO := Lib.hid HO2
            clear HO2 hkp hrd KS
            clear S4b D4b
            go_wp2_with fail
            have KS := Lib.hid (whole_any v5 S5.out.rd)
            generalize wholeO (ts.drop k5) = oo at KS HO 
            refine KS.out.mono ?_
            cases oo with
            | er E q m =>
              rintro _ v6 ⟨k', rfl, hkp, hrd, hm⟩
              have SE := Lib.hid (S5.out.call hkp hrd)
              go_wp2_with fail
              exact bodyPost_panic rfl (PostD.er HO.out.symm rfl hm SE.out)
            | ok hi r =>
              rintro _ v6 ⟨_, k6, rfl, rfl, hkp, hrd, rfl⟩
              have S6 := Lib.hid (S5.out.call hkp hrd)
              have D6 := Lib.hid (D5.out.call (by simp) hkp ND)
              have hsz_v6 := hkp.size
              have HO2 := HO.out
              rw [bind_ok] at HO2
              replace HO := Lib.hid HO2
              clear HO2 hkp hrd KS
              clear S5 D5
              obtain ⟨c6, f6⟩ := D6.out 6 _ rfl
              have S6b := Lib.hid (S6.out.other (by omega) 6 (.int .i64 hi))
              have D6b := Lib.hid (D6.out.set 6 (.int .i64 hi))
              simp only [List.set_cons_zero, List.set_cons_succ] at D6b
              have hd0 := (HC.out.at2.heap (S6b.out.kp.block cb hcl (by omega))).c0
              have NDc : dq ≠ cb := by omega
              go_wp2_with fail
              clear c6 f6 hd0 S6 D6
              generalize v6.setCell ⟨dq, 6, none⟩ (.int .i64 hi) = V6 at *
              have KFN := Lib.hid (finish_any full pl V6 S6b.out.rd)
              rw [← HAT.out] at KFN
              have KS := Lib.hid (KFN.out)
              generalize finO full pl (ts.drop k6) = oo at KS HO 
              refine KS.out.mono ?_
              cases oo with
              | er E q m =>
                rintro _ v7 ⟨k', rfl, hkp, hrd, hm⟩
                have SE := Lib.hid (S6b.out.call hkp hrd)
                go_wp2_with fail
                exact bodyPost_panic rfl (PostD.er HO.out.symm rfl hm SE.out)
              | ok u7 r =>
                rintro _ v7 ⟨_, k7, rfl, rfl, hkp, hrd, rfl⟩
                have S7 := Lib.hid (S6b.out.call hkp hrd)
                have D7 := Lib.hid (D6b.out.call (by simp) hkp ND)
                have hsz_v7 := hkp.size
                have HO2 := HO.out
                rw [bind_ok] at HO2
                replace HO := Lib.hid HO2
                clear HO2 hkp hrd KS
                clear S6b D6b KFN
                have CV : Hid (Cx v7 base cb gx (offs ts En) ds rs (.slice q ds.length dc) vr ns) := HC.out.keep S7.out.kp.size (fun j hj hj2 => S7.out.kp.block j hj (by rcases hj2 with rfl | hj2 <;> omega))
                have hsv7 := S7.out.kp.size
                have NDb : dq ≠ b := by omega
                have NDc : dq ≠ cb := by omega
                go_wp2_with fail
                have hcU := (CV.out.at2).c0
                have NCB : cb ≠ v7.heap.size := by omega
                have hS : v7.drew.cell? ⟨dq, 0, none⟩ = some (.string (bs nm)) ∧ v7.drew.cell? ⟨dq, 1, none⟩ = some (.bool (uF u)) ∧ v7.drew.cell? ⟨dq, 2, none⟩ = some (.int .i64 (uM u)) ∧ v7.drew.cell? ⟨dq, 3, none⟩ = some (.int .i64 (uA u)) ∧ v7.drew.cell? ⟨dq, 4, none⟩ = some (.int .i64 (uD u)) ∧ v7.drew.cell? ⟨dq, 5, none⟩ = some (.int .i64 lo) ∧ v7.drew.cell? ⟨dq, 6, none⟩ = some (.int .i64 hi) ∧ v7.drew.cell? ⟨dq, 7, none⟩ = some (.int .i64 at0) := ⟨(D7.out 0 _ rfl).1, (D7.out 1 _ rfl).1, (D7.out 2 _ rfl).1, (D7.out 3 _ rfl).1, (D7.out 4 _ rfl).1, (D7.out 5 _ rfl).1, (D7.out 6 _ rfl).1, (D7.out 7 _ rfl).1⟩
                refine wp_region_held (S := fun w' : World => w'.cell? ⟨dq, 0, none⟩ = some (.string (bs nm)) ∧ w'.cell? ⟨dq, 1, none⟩ = some (.bool (uF u)) ∧ w'.cell? ⟨dq, 2, none⟩ = some (.int .i64 (uM u)) ∧ w'.cell? ⟨dq, 3, none⟩ = some (.int .i64 (uA u)) ∧ w'.cell? ⟨dq, 4, none⟩ = some (.int .i64 (uD u)) ∧ w'.cell? ⟨dq, 5, none⟩ = some (.int .i64 lo) ∧ w'.cell? ⟨dq, 6, none⟩ = some (.int .i64 hi) ∧ w'.cell? ⟨dq, 7, none⟩ = some (.int .i64 at0)) mixed ?_
                change wpAnyH _ _ _ _ _ _ _ _ v7.drew
                refine tk0 (v := ?_) (by kernel_rfl) (by kernel_rfl) (by kernel_rfl) (fun _ _ _ h => h) (Or.inl ⟨by rfl, ?_⟩) hS ?_
                rotate_left
                · (intro w hSw; (try dsimp only at hSw); go_simp; try with_reducible rfl)
                simp only [Act.put, List.setIfInBounds_toArray, List.set_cons_zero, List.set_cons_succ]
                refine tk1 (v := ?_) (by kernel_rfl) (by kernel_rfl) (by kernel_rfl) (fun _ _ _ h => h) (Or.inl ⟨by rfl, ?_⟩) hS ?_
                rotate_left
                · (intro w hSw; (try dsimp only at hSw); go_simp; try with_reducible rfl)
                simp only [Act.put, List.setIfInBounds_toArray, List.set_cons_zero, List.set_cons_succ]
                refine tk2 (v := ?_) (by kernel_rfl) (by kernel_rfl) (by kernel_rfl) (fun _ _ _ h => h) (Or.inl ⟨by rfl, ?_⟩) hS ?_
                rotate_left
                · (intro w hSw; (try dsimp only at hSw); go_simp; try with_reducible rfl)
                simp only [Act.put, List.setIfInBounds_toArray, List.set_cons_zero, List.set_cons_succ]
                refine tk3 (v := ?_) (by kernel_rfl) (by kernel_rfl) (by kernel_rfl) (fun _ _ _ h => h) (Or.inl ⟨by rfl, ?_⟩) hS ?_
                rotate_left
                · (intro w hSw; (try dsimp only at hSw); go_simp; try with_reducible rfl)
                simp only [Act.put, List.setIfInBounds_toArray, List.set_cons_zero, List.set_cons_succ]
                refine tk5 (v := ?_) (by kernel_rfl) (by kernel_rfl) (by kernel_rfl) (fun _ _ _ h => h) (Or.inl ⟨by rfl, ?_⟩) hS ?_
                rotate_left
                · (intro w hSw; (try dsimp only at hSw); go_simp; try with_reducible rfl)
                simp only [Act.put, List.setIfInBounds_toArray, List.set_cons_zero, List.set_cons_succ]
                refine wpAnyH_ready (rs := [4, 6]) (by kernel_rfl) (by simp) (st4 (fun K hK => ?_) (st6 (fun K hK => ?_) AllReadyH.nil))
                · go_simp
                  refine hK.out _ _ ?_ (fun hHeld => ?_)
                  · exact hS
                  clear hK K
                  try simp only [Act.put, List.setIfInBounds_toArray, List.set_cons_zero, List.set_cons_succ]
                  refine wpAnyH_ready (rs := [6]) (by kernel_rfl) (by simp) (st6 (fun K hK => ?_) AllReadyH.nil)
                  go_simp
                  refine hK.out _ _ ?_ (fun hHeld => ?_)
                  · exact (by
                    have DA0 := D7.out.bel (by simp) ((Below.refl v7.heap.size v7).alloc (Nat.le_refl _) (.cells #[.string (bs nm), .bool (uF u), .int .i64 (uM u), .int .i64 (uA u), .int .i64 (uD u), .int .i64 lo, .int .i64 hi, .int .i64 at0] 59)).drew
                    exact ⟨(DA0 0 _ rfl).1, (DA0 1 _ rfl).1, (DA0 2 _ rfl).1, (DA0 3 _ rfl).1, (DA0 4 _ rfl).1, (DA0 5 _ rfl).1, (DA0 6 _ rfl).1, (DA0 7 _ rfl).1⟩)
                  clear hK K
                  try simp only [Act.put, List.setIfInBounds_toArray, List.set_cons_zero, List.set_cons_succ]
                  have SA := Lib.hid ((S7.out.alloc (.cells #[.string (bs nm), .bool (uF u), .int .i64 (uM u), .int .i64 (uA u), .int .i64 (uD u), .int .i64 lo, .int .i64 hi, .int .i64 at0] 59)).drew)
                  have DA := Lib.hid (D7.out.bel (by simp) ((Below.refl v7.heap.size v7).alloc (Nat.le_refl _) (.cells #[.string (bs nm), .bool (uF u), .int .i64 (uM u), .int .i64 (uA u), .int .i64 (uD u), .int .i64 lo, .int .i64 hi, .int .i64 at0] 59)).drew)
                  have AR : Hid (BoxL (v7.alloc (.cells #[.string (bs nm), .bool (uF u), .int .i64 (uM u), .int .i64 (uA u), .int .i64 (uD u), .int .i64 lo, .int .i64 hi, .int .i64 at0] 59)).drew v7.heap.size [.string (bs nm), .bool (uF u), .int .i64 (uM u), .int .i64 (uA u), .int .i64 (uD u), .int .i64 lo, .int .i64 hi, .int .i64 at0]) := BoxL.of (BoxL.new v7 [.string (bs nm), .bool (uF u), .int .i64 (uM u), .int .i64 (uA u), .int .i64 (uD u), .int .i64 lo, .int .i64 hi, .int .i64 at0] 59) rfl
                  have CA := Lib.hid (HC.out.keep SA.out.kp.size (fun j hj hj2 => SA.out.kp.block j hj (by rcases hj2 with rfl | hj2 <;> omega)))
                  have hsA : (v7.alloc (.cells #[.string (bs nm), .bool (uF u), .int .i64 (uM u), .int .i64 (uA u), .int .i64 (uD u), .int .i64 lo, .int .i64 hi, .int .i64 at0] 59)).drew.heap.size = v7.heap.size + 1 := by simp
                  generalize (v7.alloc (.cells #[.string (bs nm), .bool (uF u), .int .i64 (uM u), .int .i64 (uA u), .int .i64 (uD u), .int .i64 lo, .int .i64 hi, .int .i64 at0] 59)).drew = UA at *
                  obtain ⟨v', W2, hr, hown, hgr, hob⟩ := run_app1 23 59 8 Tryz.underlying23 info_D (by decide) UA base 23 (Value.slice q ds.length dc) ds.length _ CA.out.dr v7.heap.size [.string (bs nm), .bool (uF u), .int .i64 (uM u), .int .i64 (uA u), .int .i64 (uD u), .int .i64 lo, .int .i64 hi, .int .i64 at0] rfl (fun j u hu => (AR.out j u hu).1) (by simp [Value.oneCell']) (by omega) (by omega)
                  obtain ⟨q', c', rfl⟩ := own_slice hown
                  have hdo : some dq ≠ (Value.slice q ds.length dc).ownBlock := fun e => by have := (HC.out.dr.lt dq e.symm).2; omega
                  have hco : some cb ≠ (Value.slice q ds.length dc).ownBlock := fun e => by have := (HC.out.dr.lt cb e.symm).1; omega
                  have D2x := Lib.hid (DA.out.of (hgr.block dq (DA.out.lt (by simp)) hdo))
                  have A2x := CA.out.at2.heap (hgr.block cb CA.out.at2.lt hco)
                  obtain ⟨a0, a1, g0, g1⟩ := A2x
                  refine wpAnyH_ready (rs := [7]) (by kernel_rfl) (by simp) (st7 (fun K hK => ?_) AllReadyH.nil)
                  refine (if_pos (by kernel_rfl)).mpr ?_
                  refine wp_app (v := Value.slice q ds.length dc) (y := .slice (some ⟨v7.heap.size, 0, none⟩) 1 1) (.tmp 37) (.tmp 39) (by rfl) (by rfl) (by rfl) hr ?_
                  refine hK.out _ _ ?_ (fun hHeld => ?_)
                  · exact ⟨(D2x.out 0 _ rfl).1, (D2x.out 1 _ rfl).1, (D2x.out 2 _ rfl).1, (D2x.out 3 _ rfl).1, (D2x.out 4 _ rfl).1, (D2x.out 5 _ rfl).1, (D2x.out 6 _ rfl).1, (D2x.out 7 _ rfl).1⟩
                  clear hK K
                  try simp only [Act.put, List.setIfInBounds_toArray, List.set_cons_zero, List.set_cons_succ]
                  refine wpAnyH_ready (rs := [8]) (by kernel_rfl) (by simp) (st8 (fun K hK => ?_) AllReadyH.nil)
                  go_simp
                  refine hK.out _ _ ?_ (fun hHeld => ?_)
                  · exact ⟨(D2x.out 0 _ rfl).1, (D2x.out 1 _ rfl).1, (D2x.out 2 _ rfl).1, (D2x.out 3 _ rfl).1, (D2x.out 4 _ rfl).1, (D2x.out 5 _ rfl).1, (D2x.out 6 _ rfl).1, (D2x.out 7 _ rfl).1⟩
                  clear hK K
                  try simp only [Act.put, List.setIfInBounds_toArray, List.set_cons_zero, List.set_cons_succ]
                  refine wpAnyH_ready (rs := [9]) (by kernel_rfl) (by simp) (st9 (fun K hK => ?_) AllReadyH.nil)
                  go_simp
                  refine hK.out _ _ ?_ (fun hHeld => ?_)
                  · exact ⟨(D2x.out 0 _ rfl).1, (D2x.out 1 _ rfl).1, (D2x.out 2 _ rfl).1, (D2x.out 3 _ rfl).1, (D2x.out 4 _ rfl).1, (D2x.out 5 _ rfl).1, (D2x.out 6 _ rfl).1, (D2x.out 7 _ rfl).1⟩
                  clear hK K
                  try simp only [Act.put, List.setIfInBounds_toArray, List.set_cons_zero, List.set_cons_succ]
                  refine wpAnyH_ready (rs := [10]) (by kernel_rfl) (by simp) (st10 (fun K hK => ?_) AllReadyH.nil)
                  go_simp
                  have D3x := Lib.hid (D2x.out.other NDc 0 (.slice q' (ds.length + 1) c'))
                  refine hK.out _ _ ?_ (fun hHeld => ?_)
                  · exact ⟨(D3x.out 0 _ rfl).1, (D3x.out 1 _ rfl).1, (D3x.out 2 _ rfl).1, (D3x.out 3 _ rfl).1, (D3x.out 4 _ rfl).1, (D3x.out 5 _ rfl).1, (D3x.out 6 _ rfl).1, (D3x.out 7 _ rfl).1⟩
                  clear hK K
                  try simp only [Act.put, List.setIfInBounds_toArray, List.set_cons_zero, List.set_cons_succ]
                  refine wpAnyH_done (by kernel_rfl) ?_ _
                  go_wp2_with fail
                  go_end0
                  rw [← HO.out]
                  refine ⟨k7, .slice q' (ds.length + 1) c', vr, ns, rfl, SA.out.rd.of (by simpa [World.setCell] using hgr.size) (fun j hj hj2 => ?_), rfl, by have := CA.out.addD (d := ⟨nm, u, lo, hi, pl⟩) (v' := .slice q' (ds.length + 1) c') (by simpa [dV, HAT.out] using hown) hgr hob; exact this, ⟨hgr.os.trans SA.out.kp.os, hgr.tape.trans SA.out.kp.tape, hgr.output.trans SA.out.kp.output, by simpa [World.setCell] using Nat.le_trans SA.out.kp.size hgr.size, fun j hj hj2 => ?_⟩, hob.imp id (fun h => ⟨_, h, by omega⟩), .inl rfl⟩
                  · have hjb : j < base ∧ j ≠ cb := by
                      rcases hj2 with rfl | rfl | ⟨hz, rfl⟩
                      · exact ⟨hbb.1, hbb.2.1⟩
                      · exact ⟨hbb.2.2.1, hbb.2.2.2.1⟩
                      · exact hbb.2.2.2.2.1 hz
                    exact (Below.heap_setCell _ _ _ _ hjb.2).trans (hgr.block j hj (fun e => by have := (HC.out.dr.lt j e.symm).1; omega))
                  · simp only [not_or] at hj2
                    exact (Below.heap_setCell _ _ _ _ hj2.2.1).trans ((hgr.block j (Nat.lt_of_lt_of_le hj SA.out.kp.size) (fun e => hj2.2.2.1 e.symm)).trans (SA.out.kp.block j hj hj2.1))
                · go_simp
                  refine hK.out _ _ ?_ (fun hHeld => ?_)
                  · exact (by
                    have DA0 := D7.out.bel (by simp) ((Below.refl v7.heap.size v7).alloc (Nat.le_refl _) (.cells #[.string (bs nm), .bool (uF u), .int .i64 (uM u), .int .i64 (uA u), .int .i64 (uD u), .int .i64 lo, .int .i64 hi, .int .i64 at0] 59)).drew
                    exact ⟨(DA0 0 _ rfl).1, (DA0 1 _ rfl).1, (DA0 2 _ rfl).1, (DA0 3 _ rfl).1, (DA0 4 _ rfl).1, (DA0 5 _ rfl).1, (DA0 6 _ rfl).1, (DA0 7 _ rfl).1⟩)
                  clear hK K
                  try simp only [Act.put, List.setIfInBounds_toArray, List.set_cons_zero, List.set_cons_succ]
                  have hcA1 := ((CV.out.at2).bel ((Below.refl v7.heap.size v7).alloc (Nat.le_refl _) (.cells #[.string (bs nm), .bool (uF u), .int .i64 (uM u), .int .i64 (uA u), .int .i64 (uD u), .int .i64 lo, .int .i64 hi, .int .i64 at0] 59))).c0
                  have hcA2 := ((CV.out.at2).bel ((Below.refl v7.heap.size v7).alloc (Nat.le_refl _) (.cells #[.string (bs nm), .bool (uF u), .int .i64 (uM u), .int .i64 (uA u), .int .i64 (uD u), .int .i64 lo, .int .i64 hi, .int .i64 at0] 59)).drew).c0
                  refine wpAnyH_ready (rs := [4]) (by kernel_rfl) (by simp) (st4 (fun K hK => ?_) AllReadyH.nil)
                  go_simp
                  refine hK.out _ _ ?_ (fun hHeld => ?_)
                  · exact (by
                    have DA0 := D7.out.bel (by simp) ((Below.refl v7.heap.size v7).alloc (Nat.le_refl _) (.cells #[.string (bs nm), .bool (uF u), .int .i64 (uM u), .int .i64 (uA u), .int .i64 (uD u), .int .i64 lo, .int .i64 hi, .int .i64 at0] 59)).drew
                    exact ⟨(DA0 0 _ rfl).1, (DA0 1 _ rfl).1, (DA0 2 _ rfl).1, (DA0 3 _ rfl).1, (DA0 4 _ rfl).1, (DA0 5 _ rfl).1, (DA0 6 _ rfl).1, (DA0 7 _ rfl).1⟩)
                  clear hK K
                  try simp only [Act.put, List.setIfInBounds_toArray, List.set_cons_zero, List.set_cons_succ]
                  clear hcA1 hcA2
                  have SA := Lib.hid ((S7.out.alloc (.cells #[.string (bs nm), .bool (uF u), .int .i64 (uM u), .int .i64 (uA u), .int .i64 (uD u), .int .i64 lo, .int .i64 hi, .int .i64 at0] 59)).drew)
                  have DA := Lib.hid (D7.out.bel (by simp) ((Below.refl v7.heap.size v7).alloc (Nat.le_refl _) (.cells #[.string (bs nm), .bool (uF u), .int .i64 (uM u), .int .i64 (uA u), .int .i64 (uD u), .int .i64 lo, .int .i64 hi, .int .i64 at0] 59)).drew)
                  have AR : Hid (BoxL (v7.alloc (.cells #[.string (bs nm), .bool (uF u), .int .i64 (uM u), .int .i64 (uA u), .int .i64 (uD u), .int .i64 lo, .int .i64 hi, .int .i64 at0] 59)).drew v7.heap.size [.string (bs nm), .bool (uF u), .int .i64 (uM u), .int .i64 (uA u), .int .i64 (uD u), .int .i64 lo, .int .i64 hi, .int .i64 at0]) := BoxL.of (BoxL.new v7 [.string (bs nm), .bool (uF u), .int .i64 (uM u), .int .i64 (uA u), .int .i64 (uD u), .int .i64 lo, .int .i64 hi, .int .i64 at0] 59) rfl
                  have CA := Lib.hid (HC.out.keep SA.out.kp.size (fun j hj hj2 => SA.out.kp.block j hj (by rcases hj2 with rfl | hj2 <;> omega)))
                  have hsA : (v7.alloc (.cells #[.string (bs nm), .bool (uF u), .int .i64 (uM u), .int .i64 (uA u), .int .i64 (uD u), .int .i64 lo, .int .i64 hi, .int .i64 at0] 59)).drew.heap.size = v7.heap.size + 1 := by simp
                  generalize (v7.alloc (.cells #[.string (bs nm), .bool (uF u), .int .i64 (uM u), .int .i64 (uA u), .int .i64 (uD u), .int .i64 lo, .int .i64 hi, .int .i64 at0] 59)).drew = UA at *
                  obtain ⟨v', W2, hr, hown, hgr, hob⟩ := run_app1 23 59 8 Tryz.underlying23 info_D (by decide) UA base 23 (Value.slice q ds.length dc) ds.length _ CA.out.dr v7.heap.size [.string (bs nm), .bool (uF u), .int .i64 (uM u), .int .i64 (uA u), .int .i64 (uD u), .int .i64 lo, .int .i64 hi, .int .i64 at0] rfl (fun j u hu => (AR.out j u hu).1) (by simp [Value.oneCell']) (by omega) (by omega)
                  obtain ⟨q', c', rfl⟩ := own_slice hown
                  have hdo : some dq ≠ (Value.slice q ds.length dc).ownBlock := fun e => by have := (HC.out.dr.lt dq e.symm).2; omega
                  have hco : some cb ≠ (Value.slice q ds.length dc).ownBlock := fun e => by have := (HC.out.dr.lt cb e.symm).1; omega
                  have D2x := Lib.hid (DA.out.of (hgr.block dq (DA.out.lt (by simp)) hdo))
                  have A2x := CA.out.at2.heap (hgr.block cb CA.out.at2.lt hco)
                  obtain ⟨a0, a1, g0, g1⟩ := A2x
                  refine wpAnyH_ready (rs := [7]) (by kernel_rfl) (by simp) (st7 (fun K hK => ?_) AllReadyH.nil)
                  refine (if_pos (by kernel_rfl)).mpr ?_
                  refine wp_app (v := Value.slice q ds.length dc) (y := .slice (some ⟨v7.heap.size, 0, none⟩) 1 1) (.tmp 37) (.tmp 39) (by rfl) (by rfl) (by rfl) hr ?_
                  refine hK.out _ _ ?_ (fun hHeld => ?_)
                  · exact ⟨(D2x.out 0 _ rfl).1, (D2x.out 1 _ rfl).1, (D2x.out 2 _ rfl).1, (D2x.out 3 _ rfl).1, (D2x.out 4 _ rfl).1, (D2x.out 5 _ rfl).1, (D2x.out 6 _ rfl).1, (D2x.out 7 _ rfl).1⟩
                  clear hK K
                  try simp only [Act.put, List.setIfInBounds_toArray, List.set_cons_zero, List.set_cons_succ]
                  refine wpAnyH_ready (rs := [8]) (by kernel_rfl) (by simp) (st8 (fun K hK => ?_) AllReadyH.nil)
                  go_simp
                  refine hK.out _ _ ?_ (fun hHeld => ?_)
                  · exact ⟨(D2x.out 0 _ rfl).1, (D2x.out 1 _ rfl).1, (D2x.out 2 _ rfl).1, (D2x.out 3 _ rfl).1, (D2x.out 4 _ rfl).1, (D2x.out 5 _ rfl).1, (D2x.out 6 _ rfl).1, (D2x.out 7 _ rfl).1⟩
                  clear hK K
                  try simp only [Act.put, List.setIfInBounds_toArray, List.set_cons_zero, List.set_cons_succ]
                  refine wpAnyH_ready (rs := [9]) (by kernel_rfl) (by simp) (st9 (fun K hK => ?_) AllReadyH.nil)
                  go_simp
                  refine hK.out _ _ ?_ (fun hHeld => ?_)
                  · exact ⟨(D2x.out 0 _ rfl).1, (D2x.out 1 _ rfl).1, (D2x.out 2 _ rfl).1, (D2x.out 3 _ rfl).1, (D2x.out 4 _ rfl).1, (D2x.out 5 _ rfl).1, (D2x.out 6 _ rfl).1, (D2x.out 7 _ rfl).1⟩
                  clear hK K
                  try simp only [Act.put, List.setIfInBounds_toArray, List.set_cons_zero, List.set_cons_succ]
                  refine wpAnyH_ready (rs := [10]) (by kernel_rfl) (by simp) (st10 (fun K hK => ?_) AllReadyH.nil)
                  go_simp
                  have D3x := Lib.hid (D2x.out.other NDc 0 (.slice q' (ds.length + 1) c'))
                  refine hK.out _ _ ?_ (fun hHeld => ?_)
                  · exact ⟨(D3x.out 0 _ rfl).1, (D3x.out 1 _ rfl).1, (D3x.out 2 _ rfl).1, (D3x.out 3 _ rfl).1, (D3x.out 4 _ rfl).1, (D3x.out 5 _ rfl).1, (D3x.out 6 _ rfl).1, (D3x.out 7 _ rfl).1⟩
                  clear hK K
                  try simp only [Act.put, List.setIfInBounds_toArray, List.set_cons_zero, List.set_cons_succ]
                  refine wpAnyH_done (by kernel_rfl) ?_ _
                  go_wp2_with fail
                  go_end0
                  rw [← HO.out]
                  refine ⟨k7, .slice q' (ds.length + 1) c', vr, ns, rfl, SA.out.rd.of (by simpa [World.setCell] using hgr.size) (fun j hj hj2 => ?_), rfl, by have := CA.out.addD (d := ⟨nm, u, lo, hi, pl⟩) (v' := .slice q' (ds.length + 1) c') (by simpa [dV, HAT.out] using hown) hgr hob; exact this, ⟨hgr.os.trans SA.out.kp.os, hgr.tape.trans SA.out.kp.tape, hgr.output.trans SA.out.kp.output, by simpa [World.setCell] using Nat.le_trans SA.out.kp.size hgr.size, fun j hj hj2 => ?_⟩, hob.imp id (fun h => ⟨_, h, by omega⟩), .inl rfl⟩
                  · have hjb : j < base ∧ j ≠ cb := by
                      rcases hj2 with rfl | rfl | ⟨hz, rfl⟩
                      · exact ⟨hbb.1, hbb.2.1⟩
                      · exact ⟨hbb.2.2.1, hbb.2.2.2.1⟩
                      · exact hbb.2.2.2.2.1 hz
                    exact (Below.heap_setCell _ _ _ _ hjb.2).trans (hgr.block j hj (fun e => by have := (HC.out.dr.lt j e.symm).1; omega))
                  · simp only [not_or] at hj2
                    exact (Below.heap_setCell _ _ _ _ hj2.2.1).trans ((hgr.block j (Nat.lt_of_lt_of_le hj SA.out.kp.size) (fun e => hj2.2.2.1 e.symm)).trans (SA.out.kp.block j hj hj2.1))
end
end Go.Proofs.YtedbpjcglnkjmaaGreatDoor
namespace Go.Proofs.YtedbpjcglnkjmaaGreatDoor
open Go.RowKit Lx Pa

def ruleO (full : Bool) (pl kdn : Nat) (ts : List Tok) : Out Rule := (nameO ts).bind fun nm r1 => (wholeO r1).bind fun v r2 => (optO kAbout nameO [] r2).bind fun act r3 => (need kFrom r3).bind fun _ r4 => (wholeO r4).bind fun fr r5 =>
    (optO kUntil wholeO 36525 r5).bind fun un r6 => (need kKnown r6).bind fun _ r7 => (wholeO r7).bind fun kn r8 => (optO kWhen (limited M0) (noWhen pl) r8).bind fun wh r9 =>
    (optO kGive (limited M0) (noGive pl) r9).bind fun gi r10 => (finO full pl r10).bind fun _ r11 => .ok ⟨nm, v, kdn, act, fr, un, kn, wh, gi, pl⟩ r11
def declO (fd fr : Bool) (ts : List Tok) : Out Pa.Item := if isW kFact ts = true then (factO fd ts.length ts.tail).bind fun d r => .ok (Pa.Item.fact d) r else match which kinds ts with
  | none => bad ts
  | some k => (ruleO fr ts.length (k + 1) ts.tail).bind fun d r => .ok (Pa.Item.rule d) r
theorem out_bind_bind {α β γ : Type} (x : Out α) (f : α → List Tok → Out β) (g : β → List Tok → Out γ) : (x.bind f).bind g = x.bind fun a r => (f a r).bind g := by cases x <;> rfl
theorem bad_bind {α β : Type} (ts : List Tok) (f : α → List Tok → Out β) : (bad ts : Out α).bind f = bad ts := rfl
/-- Is a declaration one too many? -/
def fullI (fd fr : Bool) : Pa.Item → Bool
  | .fact _ => fd
  | .rule _ => fr
theorem declO_eq (fd fr : Bool) (ts : List Tok) : declO fd fr ts = (itemB M0 ts).bind fun d r => (finO (fullI fd fr d) ts.length r).bind fun _ r => .ok d r := by
  unfold declO itemB
  by_cases h : isW kFact ts = true
  · rw [if_pos h, if_pos h]
    unfold factO factB need
    rw [if_pos h]
    simp only [out_bind_bind, bind_ok, fullI]
  · rw [if_neg h, if_neg h]
    unfold ruleB
    cases which kinds ts with
    | none => rfl
    | some k =>
      simp only [ruleO, out_bind_bind, bind_ok, fullI]
theorem decl_step (c : By) (fd fr : Bool) (ts : List Tok) (hd : (c.ds.length == 12) = fd) (hr : (c.rs.length == 100) = fr) (h0 : ts ≠ []) (hf : ¬ 20 ≤ c.es.length) (hd1 : c.ds.length ≤ 12) (hr1 : c.rs.length ≤ 100) :
    (∃ d r, declO fd fr ts = .ok d r ∧ gof M0 ts c = gof M0 r ⟨dSet c.ds d, rSet c.rs d, c.es⟩ ∧ (dSet c.ds d).length ≤ 12 ∧ (rSet c.rs d).length ≤ 100 ∧ r.length < ts.length) ∨
    (∃ e k m, declO fd fr ts = .er e k m ∧ gof M0 ts c = gof M0 (skip (ts.drop (ts.length - m))) (c.err e k) ∧ (e = 2 ∨ e = 3 ∨ e = 10) ∧ (skip (ts.drop (ts.length - m))).length < ts.length) := by
  have hl0 : ts.length ≠ 0 := fun e => h0 (List.length_eq_zero_iff.1 e)
  rw [declO_eq]
  cases hb : itemB M0 ts with
  | er e k m =>
    right
    have hi : item M0 ts = .er e k m := by unfold item; rw [hb]; rfl
    have g := good_item (M := M0) ts
    rw [hi] at g
    exact ⟨e, k, m, rfl, gof_er h0 hf hi, g.1, (left_len hi hl0).1⟩
  | ok d r =>
    rw [bind_ok]
    unfold finO
    by_cases hs : isW sSc r = true
    · have hi : item M0 ts = .ok d r.tail := by unfold item; rw [hb, bind_ok]; unfold need; rw [if_pos hs]; rfl
      have hlen := item_len hi
      obtain ⟨t, r', rfl⟩ := isW_cons hs
      rw [if_pos hs]
      cases hfu : fullI fd fr d with
      | false =>
        left
        rw [if_neg (by simp)]
        refine ⟨d, r', rfl, ?_, ?_, ?_, hlen⟩
        · rw [gof_ok hf hi]
          congr 1
          cases d with
          | fact d => simp only [fullI] at hfu; subst hfu; simp only [By.add, dSet, rSet]; rw [if_neg (by simpa using hd)]
          | rule d => simp only [fullI] at hfu; subst hfu; simp only [By.add, dSet, rSet]; rw [if_neg (by simpa using hr)]
        · cases d with
          | fact d => simp only [fullI] at hfu; subst hfu; simp only [dSet, List.length_append, List.length_singleton]; have : c.ds.length ≠ 12 := by simpa using hd
                      omega
          | rule d => exact hd1
        · cases d with
          | fact d => exact hr1
          | rule d => simp only [fullI] at hfu; subst hfu; simp only [rSet, List.length_append, List.length_singleton]; have : c.rs.length ≠ 100 := by simpa using hr
                      omega
      | true =>
        right
        rw [if_pos rfl]
        have g := good_itemB (M := M0) ts
        rw [hb] at g
        obtain ⟨pre, hts, -, -⟩ := g
        have hdrop : ts.drop (ts.length - (t :: r').length) = t :: r' := by rw [hts, List.length_append, Nat.add_sub_cancel, List.drop_left]
        have hsk : skip (ts.drop (ts.length - (t :: r').length)) = r' := by rw [hdrop, skip, if_pos (show isT sSc t = true from hs)]
        refine ⟨2, ts.length, (t :: r').length, rfl, ?_, .inl rfl, by rw [hsk]; exact hlen⟩
        rw [hsk, gof_ok hf hi]
        congr 1
        cases d with
        | fact d => simp only [fullI] at hfu; subst hfu; simp only [By.add]; rw [if_pos (by simpa using hd)]; rfl
        | rule d => simp only [fullI] at hfu; subst hfu; simp only [By.add]; rw [if_pos (by simpa using hr)]; rfl
    · right
      have hi : item M0 ts = .er 10 r.length r.length := by unfold item; rw [hb, bind_ok]; unfold need; rw [if_neg hs]; rfl
      rw [if_neg hs]
      exact ⟨10, r.length, r.length, rfl, gof_er h0 hf hi, .inr (.inr rfl), (left_len hi hl0).1⟩
end Go.Proofs.YtedbpjcglnkjmaaGreatDoor
