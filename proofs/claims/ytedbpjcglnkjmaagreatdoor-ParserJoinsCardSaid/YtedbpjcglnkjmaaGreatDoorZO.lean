/-
  The contract of Expr.
  Contract of the reference: SameRule, which compares two rules.
  The head's sources: what they are parsed to; facts that lie in memory.
  Contract of the reference: SameDiags, for equal errors.
-/
import Derived.Test.YtedbpjcglnkjmaaGreatDoorZM
import Derived.Test.YtedbpjcglnkjmaaGreatDoorZH
import Derived.Test.YtedbpjcglnkjmaaGreatDoorZN
namespace Go.Proofs.YtedbpjcglnkjmaaGreatDoor
open Go.RowKit Lx Pa

/-- What Expr gives: an expression and where its places are, or an error and where it is. -/
inductive XRes where
  | ok (n : Tree) (ofs : Nat → Int)
  | er (E a : Int)
def exprR (l : List UInt8) : XRes := match lex Vh l with
  | .er E a => .er E a
  | .ok ts => match singleO M0 ts with
    | .ok n _ => .ok n (offs ts l.length)
    | .er E q _ => .er E (offs ts l.length q)
set_option maxRecDepth 100000 in
set_option maxHeartbeats 3000000 in
theorem single_ok (s : ByteArray) (hs : s.size ≤ 281474976710656) (ts : List Tok) (h : lex Vh s.data.toList = .ok ts) (n : Tree) (r : List Tok) (hn : singleO M0 ts = .ok n r) (sb nb : Nat) (w : World) (h1 : w.cell? ⟨sb, 0, none⟩ = some (.string s)) (h2 : B10 w nb (.int .i64 0) (.int .i64 0) (.string ⟨#[]⟩) (.int .i64 0) (.int .i64 0) (.bool false) (.int .i64 0) (.int .i64 0) (.int .i64 0) (.slice none 0 0)) :
    Calls Tryz.prog 33 #[.pointer (some ⟨sb, 0, none⟩), .pointer (some ⟨nb, 0, none⟩)] w fun e w' => e = .returned (.tuple #[]) ∧ ∃ x : NV, B10 w' nb (.int .i64 x.o) (.int .i64 x.a) (.string x.s) (.int .i64 x.n) (.int .i64 x.d) (.bool x.f) (.int .i64 x.m) (.int .i64 x.r) (.int .i64 x.y) (.slice x.q x.k x.c) ∧ NodeA w' (fun j => w.heap.size ≤ j) (offs ts s.size) n x ∧ Kept nb w w' := by
  have KN := Lib.hid (fun w => reader_ok s hs ts h w)
  have hnb := World.block_lt_of_cell? _ _ h2.c0
  have HB0 := Lib.hid (Below.refl w.heap.size w)
  have HN := Lib.hid h2
  simp only at hnb
  clear h h2
  go_enter Tryz.func33, Tryz.ntmps33
  go_wp2_with fail
  refine (KN.out _).mono ?_
  rintro _ v ⟨b, p, cap, qb, mb, rfl, hrd, hbw, hb⟩
  have KS := Lib.hid (single_any 0 v hrd)
  rw [List.drop_zero, hn] at KS
  have HB := Lib.hid hb
  have HN1 := Lib.hid (HN.out.bel hb)
  clear hb KN HN
  go_wp2_with fail
  refine KS.out.mono ?_
  rintro _ v2 ⟨_, k', rfl, ⟨⟨xo, xa, xs, xn, xd, xf, xm, xr, xy, xq, xk, xc⟩, rfl, hx⟩, hkp, hrd2, -⟩
  have HK := Lib.hid hkp
  have HX := Lib.hid hx
  have HN2 := Lib.hid (HN1.out.call hkp (by omega))
  have hsv := HB.out.size
  clear hkp hx hrd hrd2 KS HN1
  unfold nv
  obtain ⟨r0, r1, r2, r3, r4, r5, r6, r7, r8, r9, q0, q1, q2, q3, q4, q5, q6, q7, q8, q9⟩ := HN2.out
  go_wp2_with fail
  go_end0
  refine ⟨rfl, ⟨xo, xa, xs, xn, xd, xf, xm, xr, xy, xq, xk, xc⟩, HN2.out.put _ _ _ _ _ _ _ _ _ _, ?_, ?_⟩
  · exact (NodeA.set (NodeA.set (NodeA.set (NodeA.set (NodeA.set (NodeA.set (NodeA.set (NodeA.set (NodeA.set (NodeA.set (NodeA.keep (A' := fun j => w.heap.size ≤ j) (Nat.le_refl _) (fun _ _ _ => rfl) (fun j (hj : v.heap.size ≤ j) _ => (by show _ ≤ j; omega)) _ _ HX.out) (by show ¬ _ ≤ nb; omega) 0 _) (by show ¬ _ ≤ nb; omega) 1 _) (by show ¬ _ ≤ nb; omega) 2 _) (by show ¬ _ ≤ nb; omega) 3 _) (by show ¬ _ ≤ nb; omega) 4 _) (by show ¬ _ ≤ nb; omega) 5 _) (by show ¬ _ ≤ nb; omega) 6 _) (by show ¬ _ ≤ nb; omega) 7 _) (by show ¬ _ ≤ nb; omega) 8 _) (by show ¬ _ ≤ nb; omega) 9 _)
  · have h3 : Kept nb w v2 := Kept.of (HB.out.trans (HK.out.below (B := w.heap.size) (by omega) (by omega)))
    exact ((((((((((h3.setCell 0 none _).setCell 1 none _).setCell 2 none _).setCell 3 none _).setCell 4 none _).setCell 5 none _).setCell 6 none _).setCell 7 none _).setCell 8 none _).setCell 9 none _)
set_option maxRecDepth 100000 in
set_option maxHeartbeats 3000000 in
theorem single_er1 (s : ByteArray) (hs : s.size ≤ 281474976710656) (E : Int) (a : Nat) (h : lex Vh s.data.toList = .er E a) (sb nb : Nat) (w : World) (h1 : w.cell? ⟨sb, 0, none⟩ = some (.string s)) :
    Calls Tryz.prog 33 #[.pointer (some ⟨sb, 0, none⟩), .pointer (some ⟨nb, 0, none⟩)] w fun e w' => e = .panicked (failP E a) ∧ RowKit.Below w.heap.size w w' := by
  have KN := Lib.hid (fun w => reader_er s hs E a h w)
  clear h
  go_enter Tryz.func33, Tryz.ntmps33
  go_wp2_with fail
  refine (KN.out _).mono ?_
  rintro _ v ⟨rfl, hb⟩
  have HB := Lib.hid hb
  go_wp2_with fail
  exact bodyPost_panic rfl ⟨rfl, HB.out⟩
set_option maxRecDepth 100000 in
set_option maxHeartbeats 3000000 in
theorem single_er2 (s : ByteArray) (hs : s.size ≤ 281474976710656) (ts : List Tok) (h : lex Vh s.data.toList = .ok ts) (E : Int) (q m : Nat) (hn : singleO M0 ts = .er E q m) (sb nb : Nat) (w : World) (h1 : w.cell? ⟨sb, 0, none⟩ = some (.string s)) :
    Calls Tryz.prog 33 #[.pointer (some ⟨sb, 0, none⟩), .pointer (some ⟨nb, 0, none⟩)] w fun e w' => e = .panicked (failP E (offs ts s.size q)) ∧ RowKit.Below w.heap.size w w' := by
  have KN := Lib.hid (fun w => reader_ok s hs ts h w)
  clear h
  go_enter Tryz.func33, Tryz.ntmps33
  go_wp2_with fail
  refine (KN.out _).mono ?_
  rintro _ v ⟨b, p, cap, qb, mb, rfl, hrd, hbw, hb⟩
  have KS := Lib.hid (single_any 0 v hrd)
  rw [List.drop_zero, hn] at KS
  have HB := Lib.hid hb
  clear hb KN
  go_wp2_with fail
  refine KS.out.mono ?_
  rintro _ v2 ⟨k', rfl, hkp, -, -⟩
  have hsv := HB.out.size
  have HB2 := Lib.hid (HB.out.trans (hkp.below (B := w.heap.size) (by omega) (by omega)))
  go_wp2_with fail
  exact bodyPost_panic rfl ⟨rfl, HB2.out⟩
theorem enter_single (args : Array Value) (w : World) : (callFunc 33 args).run Tryz.prog w = .ok (.enter 33 args) w := by kernel_rfl
set_option maxRecDepth 100000 in
set_option maxHeartbeats 6000000 in
theorem expr_okW (s : ByteArray) (hs : s.size ≤ 281474976710656) (ts : List Tok) (h : lex Vh s.data.toList = .ok ts) (n : Tree) (r : List Tok) (hn : singleO M0 ts = .ok n r) (w : World) : Calls Tryz.prog 13 #[.string s] w fun e w' => ∃ x, e = .returned (.tuple #[nv x, .int .i64 0, .int .i64 0]) ∧ NodeV w' w.heap.size (offs ts s.size) n x ∧ RowKit.Below w.heap.size w w' := by
  have hmf : ∀ (fn : Fn) (first cap : Array Value) (w : World), (Instr.makeFunc fn first cap).run Tryz.prog w = .ok (.func fn first cap) w := fun _ _ _ _ => rfl
  obtain ⟨W, hW⟩ : ∃ W, W = (((w.alloc (.cells #[.string s] 9)).alloc (.cells #[.int .i64 0, .int .i64 0, .string ⟨#[]⟩, .int .i64 0, .int .i64 0, .bool false, .int .i64 0, .int .i64 0, .int .i64 0, .slice none 0 0] 36)).alloc (.cells #[.int .i64 0, .int .i64 0, .string ⟨#[]⟩, .int .i64 0, .int .i64 0, .bool false, .int .i64 0, .int .i64 0, .int .i64 0, .slice none 0 0] 36)) := ⟨_, rfl⟩
  have h1 : ∀ (v : World) (o : Obj), RowKit.Below v.heap.size v (v.alloc o) := fun v o => (Below.refl _ _).alloc (Nat.le_refl _) o
  have s1 : ∀ (v : World) (o : Obj), (v.alloc o).heap.size = v.heap.size + 1 := fun v o => by simp
  have HBW : Hid (RowKit.Below w.heap.size w W) := by
    show RowKit.Below _ _ _
    rw [hW]
    exact ((h1 w _).trans ((h1 _ _).mono (by rw [s1]; omega))).trans ((h1 _ _).mono (by rw [s1, s1]; omega))
  have C0 : Hid (W.cell? ⟨w.heap.size, 0, none⟩ = some (.string s)) := by
    show _ = _
    rw [hW, cell_past _ _ _ (by show w.heap.size < _; rw [s1, s1]; omega), cell_past _ _ _ (by show w.heap.size < _; rw [s1]; omega)]; simp
  have R0 : Hid (B10 W (w.heap.size + 1) (.int .i64 0) (.int .i64 0) (.string ⟨#[]⟩) (.int .i64 0) (.int .i64 0) (.bool false) (.int .i64 0) (.int .i64 0) (.int .i64 0) (.slice none 0 0)) := by
    have := (B10.new (w.alloc (.cells #[.string s] 9)) (.int .i64 0) (.int .i64 0) (.string ⟨#[]⟩) (.int .i64 0) (.int .i64 0) (.bool false) (.int .i64 0) (.int .i64 0) (.int .i64 0) (.slice none 0 0) 36).bel (h1 _ (.cells #[.int .i64 0, .int .i64 0, .string ⟨#[]⟩, .int .i64 0, .int .i64 0, .bool false, .int .i64 0, .int .i64 0, .int .i64 0, .slice none 0 0] 36))
    rw [s1] at this
    show B10 _ _ _ _ _ _ _ _ _ _ _ _
    rw [hW]; exact this
  have N0 : Hid (B10 W (w.heap.size + 2) (.int .i64 0) (.int .i64 0) (.string ⟨#[]⟩) (.int .i64 0) (.int .i64 0) (.bool false) (.int .i64 0) (.int .i64 0) (.int .i64 0) (.slice none 0 0)) := by
    have := B10.new ((w.alloc (.cells #[.string s] 9)).alloc (.cells #[.int .i64 0, .int .i64 0, .string ⟨#[]⟩, .int .i64 0, .int .i64 0, .bool false, .int .i64 0, .int .i64 0, .int .i64 0, .slice none 0 0] 36)) (.int .i64 0) (.int .i64 0) (.string ⟨#[]⟩) (.int .i64 0) (.int .i64 0) (.bool false) (.int .i64 0) (.int .i64 0) (.int .i64 0) (.slice none 0 0) 36
    rw [s1, s1] at this
    show B10 _ _ _ _ _ _ _ _ _ _ _ _
    rw [hW]; exact this
  have hsW : W.heap.size = w.heap.size + 3 := by rw [hW, s1, s1, s1]
  have bd := h1 W (.cells #[.int .i64 0, .int .i64 0] 49)
  have D0 := Lib.hid (At2.new W (.int .i64 0) (.int .i64 0) 49)
  have C1 := (bd.cell (p := ⟨w.heap.size, 0, none⟩) (by show w.heap.size < _; omega)).trans C0.out
  have N1 := N0.out.bel bd
  have sD := s1 W (.cells #[.int .i64 0, .int .i64 0] 49)
  have KE := Lib.hid (errorOf_ok 33 #[.pointer (some ⟨w.heap.size, 0, none⟩), .pointer (some ⟨w.heap.size + 2, 0, none⟩)] enter_single
    (fun w' => ∃ x : NV, B10 w' (w.heap.size + 2) (.int .i64 x.o) (.int .i64 x.a) (.string x.s) (.int .i64 x.n) (.int .i64 x.d) (.bool x.f) (.int .i64 x.m) (.int .i64 x.r) (.int .i64 x.y) (.slice x.q x.k x.c) ∧ NodeA w' (fun j => W.heap.size + 1 ≤ j) (offs ts s.size) n x ∧ Kept (w.heap.size + 2) W w') W
    ((single_ok s hs ts h n r hn _ _ _ C1 N1).mono (by
      rintro e w' ⟨he, x, hb, hn, hk⟩
      exact ⟨he, ⟨(World.cell?_of_block (w := W.alloc (.cells #[.int .i64 0, .int .i64 0] 49)) (hk.block W.heap.size (by omega) (by omega))).trans D0.out.c0, (World.cell?_of_block (w := W.alloc (.cells #[.int .i64 0, .int .i64 0] 49)) (hk.block W.heap.size (by omega) (by omega))).trans D0.out.c1, (World.frozen?_of_block (w := W.alloc (.cells #[.int .i64 0, .int .i64 0] 49)) (hk.block W.heap.size (by omega) (by omega))).trans D0.out.f0, (World.frozen?_of_block (w := W.alloc (.cells #[.int .i64 0, .int .i64 0] 49)) (hk.block W.heap.size (by omega) (by omega))).trans D0.out.f1⟩, x, hb, NodeA.keep (Nat.le_refl _) (fun _ _ _ => rfl) (fun j (hj : (W.alloc _).heap.size ≤ j) _ => (by show _ ≤ j; omega)) _ _ hn, (Kept.of bd).trans hk⟩)))
  clear h1 s1 bd C1 N1
  go_enter Tryz.func13, Tryz.ntmps13
  go_wp2_with fail
  rw [← hW]
  clear hW
  refine KE.out.mono ?_
  rintro _ v ⟨rfl, v2, ⟨⟨xo, xa, xs, xn, xd, xf, xm, xr, xy, xq, xk, xc⟩, hb, hn, hk⟩, hk2⟩
  have hs2 := hk.size
  have hs3 := hk2.size
  have HN : Hid (NodeA v (fun j => W.heap.size + 1 ≤ j) (offs ts s.size) n ⟨xo, xa, xs, xn, xd, xf, xm, xr, xy, xq, xk, xc⟩) := NodeA.keep hk2.size (fun j (hj : W.heap.size + 1 ≤ j) hj2 => hk2.block j hj2 (by omega)) (fun j hj _ => hj) _ _ hn
  have NB := Lib.hid (hb.of (hk2.block (w.heap.size + 2) (World.block_lt_of_cell? _ _ hb.c0) (by omega)))
  have RB := Lib.hid ((R0.out.of (hk.block (w.heap.size + 1) (by omega) (by omega))).of (hk2.block (w.heap.size + 1) (by omega) (by omega)))
  have HBv : Hid (RowKit.Below w.heap.size w v) := (HBW.out.trans (hk.below (B := w.heap.size) (by omega) (by omega))).trans (hk2.below (B := w.heap.size) (by omega) (by omega))
  have DB := Lib.hid (At2.new v (.int .i64 0) (.int .i64 0) 49)
  have bl := (Below.refl v.heap.size v).alloc (Nat.le_refl _) (.cells #[.int .i64 0, .int .i64 0] 49)
  replace HN := Lib.hid (NodeA.bel bl _ _ HN.out)
  replace NB := Lib.hid (NB.out.bel bl)
  replace RB := Lib.hid (RB.out.bel bl)
  replace HBv := Lib.hid (HBv.out.trans (bl.mono (by omega)))
  clear hb hn hk hk2 bl R0 N0 C0 D0 KE HBW
  go_wp2_with fail
  generalize v.alloc (.cells #[.int .i64 0, .int .i64 0] 49) = V at *
  generalize v.heap.size = db at *
  have hS : V.drew.cell? ⟨w.heap.size + 1 + 1, 0, none⟩ = some (.int .i64 xo) ∧ V.drew.cell? ⟨w.heap.size + 1 + 1, 1, none⟩ = some (.int .i64 xa) ∧ V.drew.cell? ⟨w.heap.size + 1 + 1, 2, none⟩ = some (.string xs) ∧ V.drew.cell? ⟨w.heap.size + 1 + 1, 3, none⟩ = some (.int .i64 xn) ∧ V.drew.cell? ⟨w.heap.size + 1 + 1, 4, none⟩ = some (.int .i64 xd) ∧ V.drew.cell? ⟨w.heap.size + 1 + 1, 5, none⟩ = some (.bool xf) ∧ V.drew.cell? ⟨w.heap.size + 1 + 1, 6, none⟩ = some (.int .i64 xm) ∧ V.drew.cell? ⟨w.heap.size + 1 + 1, 7, none⟩ = some (.int .i64 xr) ∧ V.drew.cell? ⟨w.heap.size + 1 + 1, 8, none⟩ = some (.int .i64 xy) ∧ V.drew.cell? ⟨w.heap.size + 1 + 1, 9, none⟩ = some (.slice xq xk xc) ∧ V.drew.cell? ⟨db, 0, none⟩ = some (.int .i64 0) ∧ V.drew.cell? ⟨db, 1, none⟩ = some (.int .i64 0) := ⟨NB.out.c0, NB.out.c1, NB.out.c2, NB.out.c3, NB.out.c4, NB.out.c5, NB.out.c6, NB.out.c7, NB.out.c8, NB.out.c9, DB.out.c0, DB.out.c1⟩
  refine wp_region_held (S := fun w' : World => w'.cell? ⟨w.heap.size + 1 + 1, 0, none⟩ = some (.int .i64 xo) ∧ w'.cell? ⟨w.heap.size + 1 + 1, 1, none⟩ = some (.int .i64 xa) ∧ w'.cell? ⟨w.heap.size + 1 + 1, 2, none⟩ = some (.string xs) ∧ w'.cell? ⟨w.heap.size + 1 + 1, 3, none⟩ = some (.int .i64 xn) ∧ w'.cell? ⟨w.heap.size + 1 + 1, 4, none⟩ = some (.int .i64 xd) ∧ w'.cell? ⟨w.heap.size + 1 + 1, 5, none⟩ = some (.bool xf) ∧ w'.cell? ⟨w.heap.size + 1 + 1, 6, none⟩ = some (.int .i64 xm) ∧ w'.cell? ⟨w.heap.size + 1 + 1, 7, none⟩ = some (.int .i64 xr) ∧ w'.cell? ⟨w.heap.size + 1 + 1, 8, none⟩ = some (.int .i64 xy) ∧ w'.cell? ⟨w.heap.size + 1 + 1, 9, none⟩ = some (.slice xq xk xc) ∧ w'.cell? ⟨db, 0, none⟩ = some (.int .i64 0) ∧ w'.cell? ⟨db, 1, none⟩ = some (.int .i64 0)) mixed ?_
  change wpAnyH _ _ _ _ _ _ _ _ V.drew
  refine tk0 (v := ?_) (by kernel_rfl) (by kernel_rfl) (by kernel_rfl) (fun _ _ _ h => h) (Or.inl ⟨by rfl, ?_⟩) hS ?_
  rotate_left
  · (intro w hSw; (try dsimp only at hSw); go_simp; try with_reducible rfl)
  simp only [Act.put, List.setIfInBounds_toArray, List.set_cons_zero, List.set_cons_succ]
  refine tk1 (v := ?_) (by kernel_rfl) (by kernel_rfl) (by kernel_rfl) (fun _ _ _ h => h) (Or.inl ⟨by rfl, ?_⟩) hS ?_
  rotate_left
  · (intro w hSw; (try dsimp only at hSw); go_simp; try with_reducible rfl)
  simp only [Act.put, List.setIfInBounds_toArray, List.set_cons_zero, List.set_cons_succ]
  refine tk2 (v := ?_) (by kernel_rfl) (by kernel_rfl) (by kernel_rfl) (fun _ _ _ h => h) (Or.inl ⟨by rfl, ?_⟩) hS ?_
  rotate_left
  · (intro w hSw; (try dsimp only at hSw); go_simp; try with_reducible rfl)
  simp only [Act.put, List.setIfInBounds_toArray, List.set_cons_zero, List.set_cons_succ]
  refine tk3 (v := ?_) (by kernel_rfl) (by kernel_rfl) (by kernel_rfl) (fun _ _ _ h => h) (Or.inl ⟨by rfl, ?_⟩) hS ?_
  rotate_left
  · (intro w hSw; (try dsimp only at hSw); go_simp; try with_reducible rfl)
  simp only [Act.put, List.setIfInBounds_toArray, List.set_cons_zero, List.set_cons_succ]
  refine tk4 (v := ?_) (by kernel_rfl) (by kernel_rfl) (by kernel_rfl) (fun _ _ _ h => h) (Or.inl ⟨by rfl, ?_⟩) hS ?_
  rotate_left
  · (intro w hSw; (try dsimp only at hSw); go_simp; try with_reducible rfl)
  simp only [Act.put, List.setIfInBounds_toArray, List.set_cons_zero, List.set_cons_succ]
  have hdr := (Below.refl V.heap.size V).drew
  replace NB := Lib.hid (NB.out.bel hdr)
  replace DB := Lib.hid (DB.out.bel hdr)
  replace RB := Lib.hid (RB.out.bel hdr)
  replace HBv := Lib.hid (HBv.out.drew)
  replace HN := Lib.hid (NodeA.bel hdr _ _ HN.out)
  generalize V.drew = V at *
  obtain ⟨r0, r1, r2, r3, r4, r5, r6, r7, r8, r9, q0, q1, q2, q3, q4, q5, q6, q7, q8, q9⟩ := RB.out
  have ND : db ≠ w.heap.size + 1 := by omega
  have NN : w.heap.size + 2 ≠ w.heap.size + 1 := by omega
  refine wpAnyH_ready (rs := [5]) (by kernel_rfl) (by simp) (st5 (fun K hK => ?_) AllReadyH.nil)
  go_simp
  have NT := Lib.hid ((((((((((NB.out.other NN 0 none (.int .i64 xo)).other NN 1 none (.int .i64 xa)).other NN 2 none (.string xs)).other NN 3 none (.int .i64 xn)).other NN 4 none (.int .i64 xd)).other NN 5 none (.bool xf)).other NN 6 none (.int .i64 xm)).other NN 7 none (.int .i64 xr)).other NN 8 none (.int .i64 xy)).other NN 9 none (.slice xq xk xc))
  have DT := Lib.hid ((((((((((DB.out.other ND 0 (.int .i64 xo)).other ND 1 (.int .i64 xa)).other ND 2 (.string xs)).other ND 3 (.int .i64 xn)).other ND 4 (.int .i64 xd)).other ND 5 (.bool xf)).other ND 6 (.int .i64 xm)).other ND 7 (.int .i64 xr)).other ND 8 (.int .i64 xy)).other ND 9 (.slice xq xk xc))
  refine hK.out _ _ ?_ (fun hHeld => ?_)
  · exact ⟨NT.out.c0, NT.out.c1, NT.out.c2, NT.out.c3, NT.out.c4, NT.out.c5, NT.out.c6, NT.out.c7, NT.out.c8, NT.out.c9, DT.out.c0, DT.out.c1⟩
  clear hK K
  try simp only [Act.put, List.setIfInBounds_toArray, List.set_cons_zero, List.set_cons_succ]
  refine wpAnyH_ready (rs := [6]) (by kernel_rfl) (by simp) (st6 (fun K hK => ?_) AllReadyH.nil)
  go_simp
  refine hK.out _ _ ?_ (fun hHeld => ?_)
  · exact ⟨NT.out.c0, NT.out.c1, NT.out.c2, NT.out.c3, NT.out.c4, NT.out.c5, NT.out.c6, NT.out.c7, NT.out.c8, NT.out.c9, DT.out.c0, DT.out.c1⟩
  clear hK K
  try simp only [Act.put, List.setIfInBounds_toArray, List.set_cons_zero, List.set_cons_succ]
  refine wpAnyH_ready (rs := [7]) (by kernel_rfl) (by simp) (st7 (fun K hK => ?_) AllReadyH.nil)
  go_simp
  refine hK.out _ _ ?_ (fun hHeld => ?_)
  · exact ⟨NT.out.c0, NT.out.c1, NT.out.c2, NT.out.c3, NT.out.c4, NT.out.c5, NT.out.c6, NT.out.c7, NT.out.c8, NT.out.c9, DT.out.c0, DT.out.c1⟩
  clear hK K
  try simp only [Act.put, List.setIfInBounds_toArray, List.set_cons_zero, List.set_cons_succ]
  refine wpAnyH_done (by kernel_rfl) ?_ _
  go_wp2_with fail
  refine (?_ : ∀ G : World, B10 G (w.heap.size + 1) (.int .i64 xo) (.int .i64 xa) (.string xs) (.int .i64 xn) (.int .i64 xd) (.bool xf) (.int .i64 xm) (.int .i64 xr) (.int .i64 xy) (.slice xq xk xc) → RowKit.Below w.heap.size w G → NodeA G (fun j => W.heap.size + 1 ≤ j) (offs ts s.size) n ⟨xo, xa, xs, xn, xd, xf, xm, xr, xy, xq, xk, xc⟩ → bodyPost _ _ _ _ _ G) _ (RB.out.put _ _ _ _ _ _ _ _ _ _) ?_ ?_
  · intro G hG hB hK
    obtain ⟨y0, y1, y2, y3, y4, y5, y6, y7, y8, y9, -, -, -, -, -, -, -, -, -, -⟩ := hG
    exact bodyPost_ret (v := .tuple #[.agg #[.int .i64 xo, .int .i64 xa, .string xs, .int .i64 xn, .int .i64 xd, .bool xf, .int .i64 xm, .int .i64 xr, .int .i64 xy, .slice xq xk xc], .int .i64 0, .int .i64 0]) (by simp [results, Tryz.results13, go_sem, y0, y1, y2, y3, y4, y5, y6, y7, y8, y9]) rfl ⟨⟨xo, xa, xs, xn, xd, xf, xm, xr, xy, xq, xk, xc⟩, rfl, NodeA.keep (Nat.le_refl _) (fun _ _ _ => rfl) (fun j (hj : W.heap.size + 1 ≤ j) _ => (by show _ ≤ j; omega)) _ _ hK, hB⟩
  · exact ((((((((((HBv.out.setCell (p := ⟨w.heap.size + 1, 0, none⟩) (by show _ ≤ w.heap.size + 1; omega) _).setCell (p := ⟨w.heap.size + 1, 1, none⟩) (by show _ ≤ w.heap.size + 1; omega) _).setCell (p := ⟨w.heap.size + 1, 2, none⟩) (by show _ ≤ w.heap.size + 1; omega) _).setCell (p := ⟨w.heap.size + 1, 3, none⟩) (by show _ ≤ w.heap.size + 1; omega) _).setCell (p := ⟨w.heap.size + 1, 4, none⟩) (by show _ ≤ w.heap.size + 1; omega) _).setCell (p := ⟨w.heap.size + 1, 5, none⟩) (by show _ ≤ w.heap.size + 1; omega) _).setCell (p := ⟨w.heap.size + 1, 6, none⟩) (by show _ ≤ w.heap.size + 1; omega) _).setCell (p := ⟨w.heap.size + 1, 7, none⟩) (by show _ ≤ w.heap.size + 1; omega) _).setCell (p := ⟨w.heap.size + 1, 8, none⟩) (by show _ ≤ w.heap.size + 1; omega) _).setCell (p := ⟨w.heap.size + 1, 9, none⟩) (by show _ ≤ w.heap.size + 1; omega) _)
  · exact (NodeA.set (NodeA.set (NodeA.set (NodeA.set (NodeA.set (NodeA.set (NodeA.set (NodeA.set (NodeA.set (NodeA.set HN.out (by show ¬ _ ≤ w.heap.size + 1; omega) 0 _) (by show ¬ _ ≤ w.heap.size + 1; omega) 1 _) (by show ¬ _ ≤ w.heap.size + 1; omega) 2 _) (by show ¬ _ ≤ w.heap.size + 1; omega) 3 _) (by show ¬ _ ≤ w.heap.size + 1; omega) 4 _) (by show ¬ _ ≤ w.heap.size + 1; omega) 5 _) (by show ¬ _ ≤ w.heap.size + 1; omega) 6 _) (by show ¬ _ ≤ w.heap.size + 1; omega) 7 _) (by show ¬ _ ≤ w.heap.size + 1; omega) 8 _) (by show ¬ _ ≤ w.heap.size + 1; omega) 9 _)
set_option maxRecDepth 100000 in
set_option maxHeartbeats 6000000 in
theorem expr_er1W (s : ByteArray) (hs : s.size ≤ 281474976710656) (E : Int) (AA : Int) (a : Nat) (hA : AA = a) (h : lex Vh s.data.toList = .er E a) (w : World) : Calls Tryz.prog 13 #[.string s] w fun e w' => e = .returned (.tuple #[.agg #[.int .i64 0, .int .i64 0, .string ⟨#[]⟩, .int .i64 0, .int .i64 0, .bool false, .int .i64 0, .int .i64 0, .int .i64 0, .slice none 0 0], .int .i64 E, .int .i64 AA]) ∧ RowKit.Below w.heap.size w w' := by
  have hmf : ∀ (fn : Fn) (first cap : Array Value) (w : World), (Instr.makeFunc fn first cap).run Tryz.prog w = .ok (.func fn first cap) w := fun _ _ _ _ => rfl
  obtain ⟨W, hW⟩ : ∃ W, W = (((w.alloc (.cells #[.string s] 9)).alloc (.cells #[.int .i64 0, .int .i64 0, .string ⟨#[]⟩, .int .i64 0, .int .i64 0, .bool false, .int .i64 0, .int .i64 0, .int .i64 0, .slice none 0 0] 36)).alloc (.cells #[.int .i64 0, .int .i64 0, .string ⟨#[]⟩, .int .i64 0, .int .i64 0, .bool false, .int .i64 0, .int .i64 0, .int .i64 0, .slice none 0 0] 36)) := ⟨_, rfl⟩
  have h1 : ∀ (v : World) (o : Obj), RowKit.Below v.heap.size v (v.alloc o) := fun v o => (Below.refl _ _).alloc (Nat.le_refl _) o
  have s1 : ∀ (v : World) (o : Obj), (v.alloc o).heap.size = v.heap.size + 1 := fun v o => by simp
  have HBW : Hid (RowKit.Below w.heap.size w W) := by
    show RowKit.Below _ _ _
    rw [hW]
    exact ((h1 w _).trans ((h1 _ _).mono (by rw [s1]; omega))).trans ((h1 _ _).mono (by rw [s1, s1]; omega))
  have C0 : Hid (W.cell? ⟨w.heap.size, 0, none⟩ = some (.string s)) := by
    show _ = _
    rw [hW, cell_past _ _ _ (by show w.heap.size < _; rw [s1, s1]; omega), cell_past _ _ _ (by show w.heap.size < _; rw [s1]; omega)]; simp
  have R0 : Hid (B10 W (w.heap.size + 1) (.int .i64 0) (.int .i64 0) (.string ⟨#[]⟩) (.int .i64 0) (.int .i64 0) (.bool false) (.int .i64 0) (.int .i64 0) (.int .i64 0) (.slice none 0 0)) := by
    have := (B10.new (w.alloc (.cells #[.string s] 9)) (.int .i64 0) (.int .i64 0) (.string ⟨#[]⟩) (.int .i64 0) (.int .i64 0) (.bool false) (.int .i64 0) (.int .i64 0) (.int .i64 0) (.slice none 0 0) 36).bel (h1 _ (.cells #[.int .i64 0, .int .i64 0, .string ⟨#[]⟩, .int .i64 0, .int .i64 0, .bool false, .int .i64 0, .int .i64 0, .int .i64 0, .slice none 0 0] 36))
    rw [s1] at this
    show B10 _ _ _ _ _ _ _ _ _ _ _ _
    rw [hW]; exact this
  have N0 : Hid (B10 W (w.heap.size + 2) (.int .i64 0) (.int .i64 0) (.string ⟨#[]⟩) (.int .i64 0) (.int .i64 0) (.bool false) (.int .i64 0) (.int .i64 0) (.int .i64 0) (.slice none 0 0)) := by
    have := B10.new ((w.alloc (.cells #[.string s] 9)).alloc (.cells #[.int .i64 0, .int .i64 0, .string ⟨#[]⟩, .int .i64 0, .int .i64 0, .bool false, .int .i64 0, .int .i64 0, .int .i64 0, .slice none 0 0] 36)) (.int .i64 0) (.int .i64 0) (.string ⟨#[]⟩) (.int .i64 0) (.int .i64 0) (.bool false) (.int .i64 0) (.int .i64 0) (.int .i64 0) (.slice none 0 0) 36
    rw [s1, s1] at this
    show B10 _ _ _ _ _ _ _ _ _ _ _ _
    rw [hW]; exact this
  have hsW : W.heap.size = w.heap.size + 3 := by rw [hW, s1, s1, s1]
  have bd := h1 W (.cells #[.int .i64 0, .int .i64 0] 49)
  have D0 := Lib.hid (At2.new W (.int .i64 0) (.int .i64 0) 49)
  have C1 := (bd.cell (p := ⟨w.heap.size, 0, none⟩) (by show w.heap.size < _; omega)).trans C0.out
  have N1 := N0.out.bel bd
  have sD := s1 W (.cells #[.int .i64 0, .int .i64 0] 49)
  have KE := Lib.hid (errorOf_er 33 #[.pointer (some ⟨w.heap.size, 0, none⟩), .pointer (some ⟨w.heap.size + 2, 0, none⟩)] enter_single E _ (fun w' => RowKit.Below W.heap.size W w') W
    ((single_er1 s hs E a h _ _ _ C1).mono (by
      rintro e w' ⟨he, hb⟩
      exact ⟨he, D0.out.bel hb, bd.trans (hb.mono (by omega))⟩)))
  rw [← hA] at KE
  clear h1 s1 bd C1 N1 hA
  go_enter Tryz.func13, Tryz.ntmps13
  go_wp2_with fail
  rw [← hW]
  clear hW
  refine KE.out.mono ?_
  rintro _ v ⟨rfl, v2, hb, hk2⟩
  have hs2 := hb.size
  have hs3 := hk2.size
  have NB := Lib.hid ((N0.out.bel hb).of (hk2.block (w.heap.size + 2) (by omega) (by omega)))
  have RB := Lib.hid ((R0.out.bel hb).of (hk2.block (w.heap.size + 1) (by omega) (by omega)))
  have HBv : Hid (RowKit.Below w.heap.size w v) := (HBW.out.trans (hb.mono (by omega))).trans (hk2.below (B := w.heap.size) (by omega) (by omega))
  have DB := Lib.hid (At2.new v (.int .i64 AA) (.int .i64 E) 49)
  have bl := (Below.refl v.heap.size v).alloc (Nat.le_refl _) (.cells #[.int .i64 AA, .int .i64 E] 49)
  replace NB := Lib.hid (NB.out.bel bl)
  replace RB := Lib.hid (RB.out.bel bl)
  replace HBv := Lib.hid (HBv.out.trans (bl.mono (by omega)))
  clear hb hk2 bl R0 N0 C0 D0 KE HBW
  go_wp2_with fail
  generalize v.alloc (.cells #[.int .i64 AA, .int .i64 E] 49) = V at *
  generalize v.heap.size = db at *
  have hS : V.drew.cell? ⟨w.heap.size + 1 + 1, 0, none⟩ = some (.int .i64 0) ∧ V.drew.cell? ⟨w.heap.size + 1 + 1, 1, none⟩ = some (.int .i64 0) ∧ V.drew.cell? ⟨w.heap.size + 1 + 1, 2, none⟩ = some (.string ⟨#[]⟩) ∧ V.drew.cell? ⟨w.heap.size + 1 + 1, 3, none⟩ = some (.int .i64 0) ∧ V.drew.cell? ⟨w.heap.size + 1 + 1, 4, none⟩ = some (.int .i64 0) ∧ V.drew.cell? ⟨w.heap.size + 1 + 1, 5, none⟩ = some (.bool false) ∧ V.drew.cell? ⟨w.heap.size + 1 + 1, 6, none⟩ = some (.int .i64 0) ∧ V.drew.cell? ⟨w.heap.size + 1 + 1, 7, none⟩ = some (.int .i64 0) ∧ V.drew.cell? ⟨w.heap.size + 1 + 1, 8, none⟩ = some (.int .i64 0) ∧ V.drew.cell? ⟨w.heap.size + 1 + 1, 9, none⟩ = some (.slice none 0 0) ∧ V.drew.cell? ⟨db, 0, none⟩ = some (.int .i64 AA) ∧ V.drew.cell? ⟨db, 1, none⟩ = some (.int .i64 E) := ⟨NB.out.c0, NB.out.c1, NB.out.c2, NB.out.c3, NB.out.c4, NB.out.c5, NB.out.c6, NB.out.c7, NB.out.c8, NB.out.c9, DB.out.c0, DB.out.c1⟩
  refine wp_region_held (S := fun w' : World => w'.cell? ⟨w.heap.size + 1 + 1, 0, none⟩ = some (.int .i64 0) ∧ w'.cell? ⟨w.heap.size + 1 + 1, 1, none⟩ = some (.int .i64 0) ∧ w'.cell? ⟨w.heap.size + 1 + 1, 2, none⟩ = some (.string ⟨#[]⟩) ∧ w'.cell? ⟨w.heap.size + 1 + 1, 3, none⟩ = some (.int .i64 0) ∧ w'.cell? ⟨w.heap.size + 1 + 1, 4, none⟩ = some (.int .i64 0) ∧ w'.cell? ⟨w.heap.size + 1 + 1, 5, none⟩ = some (.bool false) ∧ w'.cell? ⟨w.heap.size + 1 + 1, 6, none⟩ = some (.int .i64 0) ∧ w'.cell? ⟨w.heap.size + 1 + 1, 7, none⟩ = some (.int .i64 0) ∧ w'.cell? ⟨w.heap.size + 1 + 1, 8, none⟩ = some (.int .i64 0) ∧ w'.cell? ⟨w.heap.size + 1 + 1, 9, none⟩ = some (.slice none 0 0) ∧ w'.cell? ⟨db, 0, none⟩ = some (.int .i64 AA) ∧ w'.cell? ⟨db, 1, none⟩ = some (.int .i64 E)) mixed ?_
  change wpAnyH _ _ _ _ _ _ _ _ V.drew
  refine tk0 (v := ?_) (by kernel_rfl) (by kernel_rfl) (by kernel_rfl) (fun _ _ _ h => h) (Or.inl ⟨by rfl, ?_⟩) hS ?_
  rotate_left
  · (intro w hSw; (try dsimp only at hSw); go_simp; try with_reducible rfl)
  simp only [Act.put, List.setIfInBounds_toArray, List.set_cons_zero, List.set_cons_succ]
  refine tk1 (v := ?_) (by kernel_rfl) (by kernel_rfl) (by kernel_rfl) (fun _ _ _ h => h) (Or.inl ⟨by rfl, ?_⟩) hS ?_
  rotate_left
  · (intro w hSw; (try dsimp only at hSw); go_simp; try with_reducible rfl)
  simp only [Act.put, List.setIfInBounds_toArray, List.set_cons_zero, List.set_cons_succ]
  refine tk2 (v := ?_) (by kernel_rfl) (by kernel_rfl) (by kernel_rfl) (fun _ _ _ h => h) (Or.inl ⟨by rfl, ?_⟩) hS ?_
  rotate_left
  · (intro w hSw; (try dsimp only at hSw); go_simp; try with_reducible rfl)
  simp only [Act.put, List.setIfInBounds_toArray, List.set_cons_zero, List.set_cons_succ]
  refine tk3 (v := ?_) (by kernel_rfl) (by kernel_rfl) (by kernel_rfl) (fun _ _ _ h => h) (Or.inl ⟨by rfl, ?_⟩) hS ?_
  rotate_left
  · (intro w hSw; (try dsimp only at hSw); go_simp; try with_reducible rfl)
  simp only [Act.put, List.setIfInBounds_toArray, List.set_cons_zero, List.set_cons_succ]
  refine tk4 (v := ?_) (by kernel_rfl) (by kernel_rfl) (by kernel_rfl) (fun _ _ _ h => h) (Or.inl ⟨by rfl, ?_⟩) hS ?_
  rotate_left
  · (intro w hSw; (try dsimp only at hSw); go_simp; try with_reducible rfl)
  simp only [Act.put, List.setIfInBounds_toArray, List.set_cons_zero, List.set_cons_succ]
  have hdr := (Below.refl V.heap.size V).drew
  replace NB := Lib.hid (NB.out.bel hdr)
  replace DB := Lib.hid (DB.out.bel hdr)
  replace RB := Lib.hid (RB.out.bel hdr)
  replace HBv := Lib.hid (HBv.out.drew)
  generalize V.drew = V at *
  obtain ⟨r0, r1, r2, r3, r4, r5, r6, r7, r8, r9, q0, q1, q2, q3, q4, q5, q6, q7, q8, q9⟩ := RB.out
  have ND : db ≠ w.heap.size + 1 := by omega
  have NN : w.heap.size + 2 ≠ w.heap.size + 1 := by omega
  refine wpAnyH_ready (rs := [5]) (by kernel_rfl) (by simp) (st5 (fun K hK => ?_) AllReadyH.nil)
  go_simp
  have NT := Lib.hid ((((((((((NB.out.other NN 0 none (.int .i64 0)).other NN 1 none (.int .i64 0)).other NN 2 none (.string ⟨#[]⟩)).other NN 3 none (.int .i64 0)).other NN 4 none (.int .i64 0)).other NN 5 none (.bool false)).other NN 6 none (.int .i64 0)).other NN 7 none (.int .i64 0)).other NN 8 none (.int .i64 0)).other NN 9 none (.slice none 0 0))
  have DT := Lib.hid ((((((((((DB.out.other ND 0 (.int .i64 0)).other ND 1 (.int .i64 0)).other ND 2 (.string ⟨#[]⟩)).other ND 3 (.int .i64 0)).other ND 4 (.int .i64 0)).other ND 5 (.bool false)).other ND 6 (.int .i64 0)).other ND 7 (.int .i64 0)).other ND 8 (.int .i64 0)).other ND 9 (.slice none 0 0))
  refine hK.out _ _ ?_ (fun hHeld => ?_)
  · exact ⟨NT.out.c0, NT.out.c1, NT.out.c2, NT.out.c3, NT.out.c4, NT.out.c5, NT.out.c6, NT.out.c7, NT.out.c8, NT.out.c9, DT.out.c0, DT.out.c1⟩
  clear hK K
  try simp only [Act.put, List.setIfInBounds_toArray, List.set_cons_zero, List.set_cons_succ]
  refine wpAnyH_ready (rs := [6]) (by kernel_rfl) (by simp) (st6 (fun K hK => ?_) AllReadyH.nil)
  go_simp
  refine hK.out _ _ ?_ (fun hHeld => ?_)
  · exact ⟨NT.out.c0, NT.out.c1, NT.out.c2, NT.out.c3, NT.out.c4, NT.out.c5, NT.out.c6, NT.out.c7, NT.out.c8, NT.out.c9, DT.out.c0, DT.out.c1⟩
  clear hK K
  try simp only [Act.put, List.setIfInBounds_toArray, List.set_cons_zero, List.set_cons_succ]
  refine wpAnyH_ready (rs := [7]) (by kernel_rfl) (by simp) (st7 (fun K hK => ?_) AllReadyH.nil)
  go_simp
  refine hK.out _ _ ?_ (fun hHeld => ?_)
  · exact ⟨NT.out.c0, NT.out.c1, NT.out.c2, NT.out.c3, NT.out.c4, NT.out.c5, NT.out.c6, NT.out.c7, NT.out.c8, NT.out.c9, DT.out.c0, DT.out.c1⟩
  clear hK K
  try simp only [Act.put, List.setIfInBounds_toArray, List.set_cons_zero, List.set_cons_succ]
  refine wpAnyH_done (by kernel_rfl) ?_ _
  go_wp2_with fail
  refine (?_ : ∀ G : World, B10 G (w.heap.size + 1) (.int .i64 0) (.int .i64 0) (.string ⟨#[]⟩) (.int .i64 0) (.int .i64 0) (.bool false) (.int .i64 0) (.int .i64 0) (.int .i64 0) (.slice none 0 0) → RowKit.Below w.heap.size w G → bodyPost _ _ _ _ _ G) _ (RB.out.put _ _ _ _ _ _ _ _ _ _) ?_
  · intro G hG hB 
    obtain ⟨y0, y1, y2, y3, y4, y5, y6, y7, y8, y9, -, -, -, -, -, -, -, -, -, -⟩ := hG
    exact bodyPost_ret (v := .tuple #[.agg #[.int .i64 0, .int .i64 0, .string ⟨#[]⟩, .int .i64 0, .int .i64 0, .bool false, .int .i64 0, .int .i64 0, .int .i64 0, .slice none 0 0], .int .i64 E, .int .i64 AA]) (by simp [results, Tryz.results13, go_sem, y0, y1, y2, y3, y4, y5, y6, y7, y8, y9]) rfl ⟨rfl, hB⟩
  · exact ((((((((((HBv.out.setCell (p := ⟨w.heap.size + 1, 0, none⟩) (by show _ ≤ w.heap.size + 1; omega) _).setCell (p := ⟨w.heap.size + 1, 1, none⟩) (by show _ ≤ w.heap.size + 1; omega) _).setCell (p := ⟨w.heap.size + 1, 2, none⟩) (by show _ ≤ w.heap.size + 1; omega) _).setCell (p := ⟨w.heap.size + 1, 3, none⟩) (by show _ ≤ w.heap.size + 1; omega) _).setCell (p := ⟨w.heap.size + 1, 4, none⟩) (by show _ ≤ w.heap.size + 1; omega) _).setCell (p := ⟨w.heap.size + 1, 5, none⟩) (by show _ ≤ w.heap.size + 1; omega) _).setCell (p := ⟨w.heap.size + 1, 6, none⟩) (by show _ ≤ w.heap.size + 1; omega) _).setCell (p := ⟨w.heap.size + 1, 7, none⟩) (by show _ ≤ w.heap.size + 1; omega) _).setCell (p := ⟨w.heap.size + 1, 8, none⟩) (by show _ ≤ w.heap.size + 1; omega) _).setCell (p := ⟨w.heap.size + 1, 9, none⟩) (by show _ ≤ w.heap.size + 1; omega) _)
set_option maxRecDepth 100000 in
set_option maxHeartbeats 6000000 in
theorem expr_er2W (s : ByteArray) (hs : s.size ≤ 281474976710656) (ts : List Tok) (h : lex Vh s.data.toList = .ok ts) (E : Int) (q m : Nat) (AA : Int) (hA : AA = offs ts s.size q) (hn : singleO M0 ts = .er E q m) (w : World) : Calls Tryz.prog 13 #[.string s] w fun e w' => e = .returned (.tuple #[.agg #[.int .i64 0, .int .i64 0, .string ⟨#[]⟩, .int .i64 0, .int .i64 0, .bool false, .int .i64 0, .int .i64 0, .int .i64 0, .slice none 0 0], .int .i64 E, .int .i64 AA]) ∧ RowKit.Below w.heap.size w w' := by
  have hmf : ∀ (fn : Fn) (first cap : Array Value) (w : World), (Instr.makeFunc fn first cap).run Tryz.prog w = .ok (.func fn first cap) w := fun _ _ _ _ => rfl
  obtain ⟨W, hW⟩ : ∃ W, W = (((w.alloc (.cells #[.string s] 9)).alloc (.cells #[.int .i64 0, .int .i64 0, .string ⟨#[]⟩, .int .i64 0, .int .i64 0, .bool false, .int .i64 0, .int .i64 0, .int .i64 0, .slice none 0 0] 36)).alloc (.cells #[.int .i64 0, .int .i64 0, .string ⟨#[]⟩, .int .i64 0, .int .i64 0, .bool false, .int .i64 0, .int .i64 0, .int .i64 0, .slice none 0 0] 36)) := ⟨_, rfl⟩
  have h1 : ∀ (v : World) (o : Obj), RowKit.Below v.heap.size v (v.alloc o) := fun v o => (Below.refl _ _).alloc (Nat.le_refl _) o
  have s1 : ∀ (v : World) (o : Obj), (v.alloc o).heap.size = v.heap.size + 1 := fun v o => by simp
  have HBW : Hid (RowKit.Below w.heap.size w W) := by
    show RowKit.Below _ _ _
    rw [hW]
    exact ((h1 w _).trans ((h1 _ _).mono (by rw [s1]; omega))).trans ((h1 _ _).mono (by rw [s1, s1]; omega))
  have C0 : Hid (W.cell? ⟨w.heap.size, 0, none⟩ = some (.string s)) := by
    show _ = _
    rw [hW, cell_past _ _ _ (by show w.heap.size < _; rw [s1, s1]; omega), cell_past _ _ _ (by show w.heap.size < _; rw [s1]; omega)]; simp
  have R0 : Hid (B10 W (w.heap.size + 1) (.int .i64 0) (.int .i64 0) (.string ⟨#[]⟩) (.int .i64 0) (.int .i64 0) (.bool false) (.int .i64 0) (.int .i64 0) (.int .i64 0) (.slice none 0 0)) := by
    have := (B10.new (w.alloc (.cells #[.string s] 9)) (.int .i64 0) (.int .i64 0) (.string ⟨#[]⟩) (.int .i64 0) (.int .i64 0) (.bool false) (.int .i64 0) (.int .i64 0) (.int .i64 0) (.slice none 0 0) 36).bel (h1 _ (.cells #[.int .i64 0, .int .i64 0, .string ⟨#[]⟩, .int .i64 0, .int .i64 0, .bool false, .int .i64 0, .int .i64 0, .int .i64 0, .slice none 0 0] 36))
    rw [s1] at this
    show B10 _ _ _ _ _ _ _ _ _ _ _ _
    rw [hW]; exact this
  have N0 : Hid (B10 W (w.heap.size + 2) (.int .i64 0) (.int .i64 0) (.string ⟨#[]⟩) (.int .i64 0) (.int .i64 0) (.bool false) (.int .i64 0) (.int .i64 0) (.int .i64 0) (.slice none 0 0)) := by
    have := B10.new ((w.alloc (.cells #[.string s] 9)).alloc (.cells #[.int .i64 0, .int .i64 0, .string ⟨#[]⟩, .int .i64 0, .int .i64 0, .bool false, .int .i64 0, .int .i64 0, .int .i64 0, .slice none 0 0] 36)) (.int .i64 0) (.int .i64 0) (.string ⟨#[]⟩) (.int .i64 0) (.int .i64 0) (.bool false) (.int .i64 0) (.int .i64 0) (.int .i64 0) (.slice none 0 0) 36
    rw [s1, s1] at this
    show B10 _ _ _ _ _ _ _ _ _ _ _ _
    rw [hW]; exact this
  have hsW : W.heap.size = w.heap.size + 3 := by rw [hW, s1, s1, s1]
  have bd := h1 W (.cells #[.int .i64 0, .int .i64 0] 49)
  have D0 := Lib.hid (At2.new W (.int .i64 0) (.int .i64 0) 49)
  have C1 := (bd.cell (p := ⟨w.heap.size, 0, none⟩) (by show w.heap.size < _; omega)).trans C0.out
  have N1 := N0.out.bel bd
  have sD := s1 W (.cells #[.int .i64 0, .int .i64 0] 49)
  have KE := Lib.hid (errorOf_er 33 #[.pointer (some ⟨w.heap.size, 0, none⟩), .pointer (some ⟨w.heap.size + 2, 0, none⟩)] enter_single E _ (fun w' => RowKit.Below W.heap.size W w') W
    ((single_er2 s hs ts h E q m hn _ _ _ C1).mono (by
      rintro e w' ⟨he, hb⟩
      exact ⟨he, D0.out.bel hb, bd.trans (hb.mono (by omega))⟩)))
  rw [← hA] at KE
  clear h1 s1 bd C1 N1 hA
  go_enter Tryz.func13, Tryz.ntmps13
  go_wp2_with fail
  rw [← hW]
  clear hW
  refine KE.out.mono ?_
  rintro _ v ⟨rfl, v2, hb, hk2⟩
  have hs2 := hb.size
  have hs3 := hk2.size
  have NB := Lib.hid ((N0.out.bel hb).of (hk2.block (w.heap.size + 2) (by omega) (by omega)))
  have RB := Lib.hid ((R0.out.bel hb).of (hk2.block (w.heap.size + 1) (by omega) (by omega)))
  have HBv : Hid (RowKit.Below w.heap.size w v) := (HBW.out.trans (hb.mono (by omega))).trans (hk2.below (B := w.heap.size) (by omega) (by omega))
  have DB := Lib.hid (At2.new v (.int .i64 AA) (.int .i64 E) 49)
  have bl := (Below.refl v.heap.size v).alloc (Nat.le_refl _) (.cells #[.int .i64 AA, .int .i64 E] 49)
  replace NB := Lib.hid (NB.out.bel bl)
  replace RB := Lib.hid (RB.out.bel bl)
  replace HBv := Lib.hid (HBv.out.trans (bl.mono (by omega)))
  clear hb hk2 bl R0 N0 C0 D0 KE HBW
  go_wp2_with fail
  generalize v.alloc (.cells #[.int .i64 AA, .int .i64 E] 49) = V at *
  generalize v.heap.size = db at *
  have hS : V.drew.cell? ⟨w.heap.size + 1 + 1, 0, none⟩ = some (.int .i64 0) ∧ V.drew.cell? ⟨w.heap.size + 1 + 1, 1, none⟩ = some (.int .i64 0) ∧ V.drew.cell? ⟨w.heap.size + 1 + 1, 2, none⟩ = some (.string ⟨#[]⟩) ∧ V.drew.cell? ⟨w.heap.size + 1 + 1, 3, none⟩ = some (.int .i64 0) ∧ V.drew.cell? ⟨w.heap.size + 1 + 1, 4, none⟩ = some (.int .i64 0) ∧ V.drew.cell? ⟨w.heap.size + 1 + 1, 5, none⟩ = some (.bool false) ∧ V.drew.cell? ⟨w.heap.size + 1 + 1, 6, none⟩ = some (.int .i64 0) ∧ V.drew.cell? ⟨w.heap.size + 1 + 1, 7, none⟩ = some (.int .i64 0) ∧ V.drew.cell? ⟨w.heap.size + 1 + 1, 8, none⟩ = some (.int .i64 0) ∧ V.drew.cell? ⟨w.heap.size + 1 + 1, 9, none⟩ = some (.slice none 0 0) ∧ V.drew.cell? ⟨db, 0, none⟩ = some (.int .i64 AA) ∧ V.drew.cell? ⟨db, 1, none⟩ = some (.int .i64 E) := ⟨NB.out.c0, NB.out.c1, NB.out.c2, NB.out.c3, NB.out.c4, NB.out.c5, NB.out.c6, NB.out.c7, NB.out.c8, NB.out.c9, DB.out.c0, DB.out.c1⟩
  refine wp_region_held (S := fun w' : World => w'.cell? ⟨w.heap.size + 1 + 1, 0, none⟩ = some (.int .i64 0) ∧ w'.cell? ⟨w.heap.size + 1 + 1, 1, none⟩ = some (.int .i64 0) ∧ w'.cell? ⟨w.heap.size + 1 + 1, 2, none⟩ = some (.string ⟨#[]⟩) ∧ w'.cell? ⟨w.heap.size + 1 + 1, 3, none⟩ = some (.int .i64 0) ∧ w'.cell? ⟨w.heap.size + 1 + 1, 4, none⟩ = some (.int .i64 0) ∧ w'.cell? ⟨w.heap.size + 1 + 1, 5, none⟩ = some (.bool false) ∧ w'.cell? ⟨w.heap.size + 1 + 1, 6, none⟩ = some (.int .i64 0) ∧ w'.cell? ⟨w.heap.size + 1 + 1, 7, none⟩ = some (.int .i64 0) ∧ w'.cell? ⟨w.heap.size + 1 + 1, 8, none⟩ = some (.int .i64 0) ∧ w'.cell? ⟨w.heap.size + 1 + 1, 9, none⟩ = some (.slice none 0 0) ∧ w'.cell? ⟨db, 0, none⟩ = some (.int .i64 AA) ∧ w'.cell? ⟨db, 1, none⟩ = some (.int .i64 E)) mixed ?_
  change wpAnyH _ _ _ _ _ _ _ _ V.drew
  refine tk0 (v := ?_) (by kernel_rfl) (by kernel_rfl) (by kernel_rfl) (fun _ _ _ h => h) (Or.inl ⟨by rfl, ?_⟩) hS ?_
  rotate_left
  · (intro w hSw; (try dsimp only at hSw); go_simp; try with_reducible rfl)
  simp only [Act.put, List.setIfInBounds_toArray, List.set_cons_zero, List.set_cons_succ]
  refine tk1 (v := ?_) (by kernel_rfl) (by kernel_rfl) (by kernel_rfl) (fun _ _ _ h => h) (Or.inl ⟨by rfl, ?_⟩) hS ?_
  rotate_left
  · (intro w hSw; (try dsimp only at hSw); go_simp; try with_reducible rfl)
  simp only [Act.put, List.setIfInBounds_toArray, List.set_cons_zero, List.set_cons_succ]
  refine tk2 (v := ?_) (by kernel_rfl) (by kernel_rfl) (by kernel_rfl) (fun _ _ _ h => h) (Or.inl ⟨by rfl, ?_⟩) hS ?_
  rotate_left
  · (intro w hSw; (try dsimp only at hSw); go_simp; try with_reducible rfl)
  simp only [Act.put, List.setIfInBounds_toArray, List.set_cons_zero, List.set_cons_succ]
  refine tk3 (v := ?_) (by kernel_rfl) (by kernel_rfl) (by kernel_rfl) (fun _ _ _ h => h) (Or.inl ⟨by rfl, ?_⟩) hS ?_
  rotate_left
  · (intro w hSw; (try dsimp only at hSw); go_simp; try with_reducible rfl)
  simp only [Act.put, List.setIfInBounds_toArray, List.set_cons_zero, List.set_cons_succ]
  refine tk4 (v := ?_) (by kernel_rfl) (by kernel_rfl) (by kernel_rfl) (fun _ _ _ h => h) (Or.inl ⟨by rfl, ?_⟩) hS ?_
  rotate_left
  · (intro w hSw; (try dsimp only at hSw); go_simp; try with_reducible rfl)
  simp only [Act.put, List.setIfInBounds_toArray, List.set_cons_zero, List.set_cons_succ]
  have hdr := (Below.refl V.heap.size V).drew
  replace NB := Lib.hid (NB.out.bel hdr)
  replace DB := Lib.hid (DB.out.bel hdr)
  replace RB := Lib.hid (RB.out.bel hdr)
  replace HBv := Lib.hid (HBv.out.drew)
  generalize V.drew = V at *
  obtain ⟨r0, r1, r2, r3, r4, r5, r6, r7, r8, r9, q0, q1, q2, q3, q4, q5, q6, q7, q8, q9⟩ := RB.out
  have ND : db ≠ w.heap.size + 1 := by omega
  have NN : w.heap.size + 2 ≠ w.heap.size + 1 := by omega
  refine wpAnyH_ready (rs := [5]) (by kernel_rfl) (by simp) (st5 (fun K hK => ?_) AllReadyH.nil)
  go_simp
  have NT := Lib.hid ((((((((((NB.out.other NN 0 none (.int .i64 0)).other NN 1 none (.int .i64 0)).other NN 2 none (.string ⟨#[]⟩)).other NN 3 none (.int .i64 0)).other NN 4 none (.int .i64 0)).other NN 5 none (.bool false)).other NN 6 none (.int .i64 0)).other NN 7 none (.int .i64 0)).other NN 8 none (.int .i64 0)).other NN 9 none (.slice none 0 0))
  have DT := Lib.hid ((((((((((DB.out.other ND 0 (.int .i64 0)).other ND 1 (.int .i64 0)).other ND 2 (.string ⟨#[]⟩)).other ND 3 (.int .i64 0)).other ND 4 (.int .i64 0)).other ND 5 (.bool false)).other ND 6 (.int .i64 0)).other ND 7 (.int .i64 0)).other ND 8 (.int .i64 0)).other ND 9 (.slice none 0 0))
  refine hK.out _ _ ?_ (fun hHeld => ?_)
  · exact ⟨NT.out.c0, NT.out.c1, NT.out.c2, NT.out.c3, NT.out.c4, NT.out.c5, NT.out.c6, NT.out.c7, NT.out.c8, NT.out.c9, DT.out.c0, DT.out.c1⟩
  clear hK K
  try simp only [Act.put, List.setIfInBounds_toArray, List.set_cons_zero, List.set_cons_succ]
  refine wpAnyH_ready (rs := [6]) (by kernel_rfl) (by simp) (st6 (fun K hK => ?_) AllReadyH.nil)
  go_simp
  refine hK.out _ _ ?_ (fun hHeld => ?_)
  · exact ⟨NT.out.c0, NT.out.c1, NT.out.c2, NT.out.c3, NT.out.c4, NT.out.c5, NT.out.c6, NT.out.c7, NT.out.c8, NT.out.c9, DT.out.c0, DT.out.c1⟩
  clear hK K
  try simp only [Act.put, List.setIfInBounds_toArray, List.set_cons_zero, List.set_cons_succ]
  refine wpAnyH_ready (rs := [7]) (by kernel_rfl) (by simp) (st7 (fun K hK => ?_) AllReadyH.nil)
  go_simp
  refine hK.out _ _ ?_ (fun hHeld => ?_)
  · exact ⟨NT.out.c0, NT.out.c1, NT.out.c2, NT.out.c3, NT.out.c4, NT.out.c5, NT.out.c6, NT.out.c7, NT.out.c8, NT.out.c9, DT.out.c0, DT.out.c1⟩
  clear hK K
  try simp only [Act.put, List.setIfInBounds_toArray, List.set_cons_zero, List.set_cons_succ]
  refine wpAnyH_done (by kernel_rfl) ?_ _
  go_wp2_with fail
  refine (?_ : ∀ G : World, B10 G (w.heap.size + 1) (.int .i64 0) (.int .i64 0) (.string ⟨#[]⟩) (.int .i64 0) (.int .i64 0) (.bool false) (.int .i64 0) (.int .i64 0) (.int .i64 0) (.slice none 0 0) → RowKit.Below w.heap.size w G → bodyPost _ _ _ _ _ G) _ (RB.out.put _ _ _ _ _ _ _ _ _ _) ?_
  · intro G hG hB 
    obtain ⟨y0, y1, y2, y3, y4, y5, y6, y7, y8, y9, -, -, -, -, -, -, -, -, -, -⟩ := hG
    exact bodyPost_ret (v := .tuple #[.agg #[.int .i64 0, .int .i64 0, .string ⟨#[]⟩, .int .i64 0, .int .i64 0, .bool false, .int .i64 0, .int .i64 0, .int .i64 0, .slice none 0 0], .int .i64 E, .int .i64 AA]) (by simp [results, Tryz.results13, go_sem, y0, y1, y2, y3, y4, y5, y6, y7, y8, y9]) rfl ⟨rfl, hB⟩
  · exact ((((((((((HBv.out.setCell (p := ⟨w.heap.size + 1, 0, none⟩) (by show _ ≤ w.heap.size + 1; omega) _).setCell (p := ⟨w.heap.size + 1, 1, none⟩) (by show _ ≤ w.heap.size + 1; omega) _).setCell (p := ⟨w.heap.size + 1, 2, none⟩) (by show _ ≤ w.heap.size + 1; omega) _).setCell (p := ⟨w.heap.size + 1, 3, none⟩) (by show _ ≤ w.heap.size + 1; omega) _).setCell (p := ⟨w.heap.size + 1, 4, none⟩) (by show _ ≤ w.heap.size + 1; omega) _).setCell (p := ⟨w.heap.size + 1, 5, none⟩) (by show _ ≤ w.heap.size + 1; omega) _).setCell (p := ⟨w.heap.size + 1, 6, none⟩) (by show _ ≤ w.heap.size + 1; omega) _).setCell (p := ⟨w.heap.size + 1, 7, none⟩) (by show _ ≤ w.heap.size + 1; omega) _).setCell (p := ⟨w.heap.size + 1, 8, none⟩) (by show _ ≤ w.heap.size + 1; omega) _).setCell (p := ⟨w.heap.size + 1, 9, none⟩) (by show _ ≤ w.heap.size + 1; omega) _)
end Go.Proofs.YtedbpjcglnkjmaaGreatDoor
namespace Go.Proofs.YtedbpjcglnkjmaaGreatDoor
open Go.RowKit Lx Pa

/-- Are two rules equal; at: their places, too? -/
def eqR (t : Bool) (f g : Nat → Int) (r r' : Rule) : Prop := r.name = r'.name ∧ r.ver = r'.ver ∧ r.kind = r'.kind ∧ r.act = r'.act ∧ r.fr = r'.fr ∧ r.un = r'.un ∧ r.known = r'.known ∧ (t = true → f r.pl = g r'.pl) ∧ eqT t f g r.whn r'.whn = true ∧ eqT t f g r.give r'.give = true
theorem rV_len (ofs : Nat → Int) (r : Rule) (x y : NV) : (rV ofs r x y).length = 28 := rfl
set_option maxRecDepth 100000 in
set_option maxHeartbeats 12000000 in
theorem sameRule_any (t : Bool) (f g : Nat → Int) (r r' : Rule) (A A' : Nat → Prop) (x y x' y' : NV) (w : World) (hx : NodeA w A f r.whn x) (hy : NodeA w A f r.give y) (hx' : NodeA w A' g r'.whn x') (hy' : NodeA w A' g r'.give y') (hw : r.whn.siz ≤ 1000000) (hg : r.give.siz ≤ 1000000) (hR : eqR t f g r r') :
    Calls Tryz.prog 22 #[.agg (rV f r x y).toArray, .agg (rV g r' x' y').toArray, .bool t] w fun e w' => e = .returned (.bool true) ∧ RowKit.Below w.heap.size w w' := by
  obtain ⟨nm, ver, kd, act, fr, un, kn, wh, gi, pl⟩ := r
  obtain ⟨nm', ver', kd', act', fr', un', kn', wh', gi', pl'⟩ := r'
  simp only at hx hy hx' hy' hw hg
  have KX := Lib.hid (fun w h1 h2 => same_any t f g _ wh wh' (Nat.le_refl _) hw A A' x x' w h1 h2)
  have KY := Lib.hid (fun w h1 h2 => same_any t f g _ gi gi' (Nat.le_refl _) hg A A' y y' w h1 h2)
  obtain ⟨e1, e2, e3, e4, e5, e6, e7, hat, e8, e9⟩ := hR
  simp only at e1 e2 e3 e4 e5 e6 e7 e8 e9 hat
  subst e1 e2 e3 e4 e5 e6 e7
  rw [e8] at KX
  rw [e9] at KY
  clear e8 e9
  obtain ⟨W, hW⟩ : ∃ W, W = (w.alloc (.cells (rV f ⟨nm, ver, kd, act, fr, un, kn, wh, gi, pl⟩ x y).toArray 63)).alloc (.cells (rV g ⟨nm, ver, kd, act, fr, un, kn, wh', gi', pl'⟩ x' y').toArray 63) := ⟨_, rfl⟩
  have b1 := (Below.refl w.heap.size w).alloc (Nat.le_refl _) (.cells (rV f ⟨nm, ver, kd, act, fr, un, kn, wh, gi, pl⟩ x y).toArray 63)
  have s1 : (w.alloc (.cells (rV f ⟨nm, ver, kd, act, fr, un, kn, wh, gi, pl⟩ x y).toArray 63)).heap.size = w.heap.size + 1 := by simp
  have b2 := (Below.refl _ (w.alloc (.cells (rV f ⟨nm, ver, kd, act, fr, un, kn, wh, gi, pl⟩ x y).toArray 63))).alloc (Nat.le_refl _) (.cells (rV g ⟨nm, ver, kd, act, fr, un, kn, wh', gi', pl'⟩ x' y').toArray 63)
  have D1 : Hid (BoxL W w.heap.size (rV f ⟨nm, ver, kd, act, fr, un, kn, wh, gi, pl⟩ x y)) := by
    show BoxL _ _ _
    rw [hW]
    exact (BoxL.new w (rV f ⟨nm, ver, kd, act, fr, un, kn, wh, gi, pl⟩ x y) 63).of (b2.block _ (by omega))
  have D2 : Hid (BoxL W (w.heap.size + 1) (rV g ⟨nm, ver, kd, act, fr, un, kn, wh', gi', pl'⟩ x' y')) := by
    have := BoxL.new (w.alloc (.cells (rV f ⟨nm, ver, kd, act, fr, un, kn, wh, gi, pl⟩ x y).toArray 63)) (rV g ⟨nm, ver, kd, act, fr, un, kn, wh', gi', pl'⟩ x' y') 63
    rw [s1] at this
    show BoxL _ _ _
    rw [hW]; exact this
  have HB : Hid (RowKit.Below w.heap.size w W) := by show RowKit.Below _ _ _; rw [hW]; exact b1.trans (b2.mono (by omega))
  have HX := Lib.hid (NodeA.bel HB.out _ _ hx)
  have HY := Lib.hid (NodeA.bel HB.out _ _ hy)
  have HX' := Lib.hid (NodeA.bel HB.out _ _ hx')
  have HY' := Lib.hid (NodeA.bel HB.out _ _ hy')
  clear hx hy hx' hy' hw hg b1 b2 s1
  go_enter Tryz.func22, Tryz.ntmps22
  refine wp_seq_cut (fun a v => a = { tmps := #[.agg (rV f ⟨nm, ver, kd, act, fr, un, kn, wh, gi, pl⟩ x y).toArray, .agg (rV g ⟨nm, ver, kd, act, fr, un, kn, wh', gi', pl'⟩ x' y').toArray, .bool t, .pointer (some ⟨w.heap.size, 0, none⟩), .pointer (some ⟨w.heap.size + 1, 0, none⟩), undef, .bool false, undef, undef, undef, undef, undef, undef, undef, undef, undef, undef, undef, undef, undef, undef, undef, undef, undef, undef, undef, undef, undef, undef, undef, undef, undef, undef, undef, undef, undef, undef, undef, undef, undef, undef, undef, undef, undef, undef, undef, undef, undef, undef, undef, undef, undef, undef, undef, undef, undef, undef, undef, undef, undef, undef, undef, undef, undef, undef, undef, undef, undef, undef, undef, undef, undef, undef, undef], defers := [] } ∧ v = W) ?_ ?_
  rotate_left
  · intro J K hJ hK
    have HJ := Lib.hid hJ
    clear hJ
    go_wp2_with fail
    exact Handed.intro 0 (by decide) (HJ.out 0 _ _ ⟨rfl, hW.symm⟩)
  rintro _ V ⟨rfl, hV⟩
  obtain rfl : W = V := hV.symm
  clear hW
  generalize Value.agg (rV f ⟨nm, ver, kd, act, fr, un, kn, wh, gi, pl⟩ x y).toArray = zz1
  generalize Value.agg (rV g ⟨nm, ver, kd, act, fr, un, kn, wh', gi', pl'⟩ x' y').toArray = zz2
  generalize w.heap.size + 1 = n1 at *
  generalize hn0 : w.heap.size = n0 at *
  have HN0 := Lib.hid hn0
  clear hn0
  obtain ⟨xo, xa, xs, xn, xd, xf, xm, xr, xy, xq, xk, xc⟩ := x
  obtain ⟨yo, ya, ys, yn, yd, yf, ym, yr, yy, yq, yk, yc⟩ := y
  obtain ⟨uo, ua, us, un1, ud, uf, um, ur, uy, uq, uk, uc⟩ := x'
  obtain ⟨vo, va, vs, vn, vd, vf, vm, vr, vy, vq, vk, vc⟩ := y'
  unfold nv at KX KY
  have c0 : W.cell? ⟨n0, 0, none⟩ = some (.string (bs nm)) := (D1.out 0 _ rfl).1
  have c1 : W.cell? ⟨n0, 1, none⟩ = some (.int .i64 ver) := (D1.out 1 _ rfl).1
  have c2 : W.cell? ⟨n0, 2, none⟩ = some (.int .i64 (kd : Nat)) := (D1.out 2 _ rfl).1
  have c3 : W.cell? ⟨n0, 3, none⟩ = some (.string (bs act)) := (D1.out 3 _ rfl).1
  have c4 : W.cell? ⟨n0, 4, none⟩ = some (.int .i64 fr) := (D1.out 4 _ rfl).1
  have c5 : W.cell? ⟨n0, 5, none⟩ = some (.int .i64 un) := (D1.out 5 _ rfl).1
  have c6 : W.cell? ⟨n0, 6, none⟩ = some (.int .i64 kn) := (D1.out 6 _ rfl).1
  have c7 : W.cell? ⟨n0, 7, none⟩ = some (.int .i64 xo) := (D1.out 7 _ rfl).1
  have c8 : W.cell? ⟨n0, 8, none⟩ = some (.int .i64 xa) := (D1.out 8 _ rfl).1
  have c9 : W.cell? ⟨n0, 9, none⟩ = some (.string xs) := (D1.out 9 _ rfl).1
  have c10 : W.cell? ⟨n0, 10, none⟩ = some (.int .i64 xn) := (D1.out 10 _ rfl).1
  have c11 : W.cell? ⟨n0, 11, none⟩ = some (.int .i64 xd) := (D1.out 11 _ rfl).1
  have c12 : W.cell? ⟨n0, 12, none⟩ = some (.bool xf) := (D1.out 12 _ rfl).1
  have c13 : W.cell? ⟨n0, 13, none⟩ = some (.int .i64 xm) := (D1.out 13 _ rfl).1
  have c14 : W.cell? ⟨n0, 14, none⟩ = some (.int .i64 xr) := (D1.out 14 _ rfl).1
  have c15 : W.cell? ⟨n0, 15, none⟩ = some (.int .i64 xy) := (D1.out 15 _ rfl).1
  have c16 : W.cell? ⟨n0, 16, none⟩ = some (.slice xq xk xc) := (D1.out 16 _ rfl).1
  have c17 : W.cell? ⟨n0, 17, none⟩ = some (.int .i64 yo) := (D1.out 17 _ rfl).1
  have c18 : W.cell? ⟨n0, 18, none⟩ = some (.int .i64 ya) := (D1.out 18 _ rfl).1
  have c19 : W.cell? ⟨n0, 19, none⟩ = some (.string ys) := (D1.out 19 _ rfl).1
  have c20 : W.cell? ⟨n0, 20, none⟩ = some (.int .i64 yn) := (D1.out 20 _ rfl).1
  have c21 : W.cell? ⟨n0, 21, none⟩ = some (.int .i64 yd) := (D1.out 21 _ rfl).1
  have c22 : W.cell? ⟨n0, 22, none⟩ = some (.bool yf) := (D1.out 22 _ rfl).1
  have c23 : W.cell? ⟨n0, 23, none⟩ = some (.int .i64 ym) := (D1.out 23 _ rfl).1
  have c24 : W.cell? ⟨n0, 24, none⟩ = some (.int .i64 yr) := (D1.out 24 _ rfl).1
  have c25 : W.cell? ⟨n0, 25, none⟩ = some (.int .i64 yy) := (D1.out 25 _ rfl).1
  have c26 : W.cell? ⟨n0, 26, none⟩ = some (.slice yq yk yc) := (D1.out 26 _ rfl).1
  have c27 : W.cell? ⟨n0, 27, none⟩ = some (.int .i64 (f pl)) := (D1.out 27 _ rfl).1
  have d0 : W.cell? ⟨n1, 0, none⟩ = some (.string (bs nm)) := (D2.out 0 _ rfl).1
  have d1 : W.cell? ⟨n1, 1, none⟩ = some (.int .i64 ver) := (D2.out 1 _ rfl).1
  have d2 : W.cell? ⟨n1, 2, none⟩ = some (.int .i64 (kd : Nat)) := (D2.out 2 _ rfl).1
  have d3 : W.cell? ⟨n1, 3, none⟩ = some (.string (bs act)) := (D2.out 3 _ rfl).1
  have d4 : W.cell? ⟨n1, 4, none⟩ = some (.int .i64 fr) := (D2.out 4 _ rfl).1
  have d5 : W.cell? ⟨n1, 5, none⟩ = some (.int .i64 un) := (D2.out 5 _ rfl).1
  have d6 : W.cell? ⟨n1, 6, none⟩ = some (.int .i64 kn) := (D2.out 6 _ rfl).1
  have d7 : W.cell? ⟨n1, 7, none⟩ = some (.int .i64 uo) := (D2.out 7 _ rfl).1
  have d8 : W.cell? ⟨n1, 8, none⟩ = some (.int .i64 ua) := (D2.out 8 _ rfl).1
  have d9 : W.cell? ⟨n1, 9, none⟩ = some (.string us) := (D2.out 9 _ rfl).1
  have d10 : W.cell? ⟨n1, 10, none⟩ = some (.int .i64 un1) := (D2.out 10 _ rfl).1
  have d11 : W.cell? ⟨n1, 11, none⟩ = some (.int .i64 ud) := (D2.out 11 _ rfl).1
  have d12 : W.cell? ⟨n1, 12, none⟩ = some (.bool uf) := (D2.out 12 _ rfl).1
  have d13 : W.cell? ⟨n1, 13, none⟩ = some (.int .i64 um) := (D2.out 13 _ rfl).1
  have d14 : W.cell? ⟨n1, 14, none⟩ = some (.int .i64 ur) := (D2.out 14 _ rfl).1
  have d15 : W.cell? ⟨n1, 15, none⟩ = some (.int .i64 uy) := (D2.out 15 _ rfl).1
  have d16 : W.cell? ⟨n1, 16, none⟩ = some (.slice uq uk uc) := (D2.out 16 _ rfl).1
  have d17 : W.cell? ⟨n1, 17, none⟩ = some (.int .i64 vo) := (D2.out 17 _ rfl).1
  have d18 : W.cell? ⟨n1, 18, none⟩ = some (.int .i64 va) := (D2.out 18 _ rfl).1
  have d19 : W.cell? ⟨n1, 19, none⟩ = some (.string vs) := (D2.out 19 _ rfl).1
  have d20 : W.cell? ⟨n1, 20, none⟩ = some (.int .i64 vn) := (D2.out 20 _ rfl).1
  have d21 : W.cell? ⟨n1, 21, none⟩ = some (.int .i64 vd) := (D2.out 21 _ rfl).1
  have d22 : W.cell? ⟨n1, 22, none⟩ = some (.bool vf) := (D2.out 22 _ rfl).1
  have d23 : W.cell? ⟨n1, 23, none⟩ = some (.int .i64 vm) := (D2.out 23 _ rfl).1
  have d24 : W.cell? ⟨n1, 24, none⟩ = some (.int .i64 vr) := (D2.out 24 _ rfl).1
  have d25 : W.cell? ⟨n1, 25, none⟩ = some (.int .i64 vy) := (D2.out 25 _ rfl).1
  have d26 : W.cell? ⟨n1, 26, none⟩ = some (.slice vq vk vc) := (D2.out 26 _ rfl).1
  have d27 : W.cell? ⟨n1, 27, none⟩ = some (.int .i64 (g pl')) := (D2.out 27 _ rfl).1
  cases t with
  | false =>
    go_wp2_with fail
    refine (KX.out _ HX.out HX'.out).mono ?_
    rintro _ w1 ⟨rfl, hb⟩
    have HB1 := Lib.hid (HB.out.trans (hb.mono (by have := HB.out.size; have := HN0.out; omega)))
    have HY1 := Lib.hid (NodeA.bel hb _ _ HY.out)
    have HY1' := Lib.hid (NodeA.bel hb _ _ HY'.out)
    have E1 := Lib.hid (D1.out.of (hb.block n0 (D1.out.lt (by rw [rV_len]; decide))))
    have E2 := Lib.hid (D2.out.of (hb.block n1 (D2.out.lt (by rw [rV_len]; decide))))
    clear hb HB KX HX HX' HY HY' D1 D2 c0 d0 c1 d1 c2 d2 c3 d3 c4 d4 c5 d5 c6 d6 c7 d7 c8 d8 c9 d9 c10 d10 c11 d11 c12 d12 c13 d13 c14 d14 c15 d15 c16 d16 c17 d17 c18 d18 c19 d19 c20 d20 c21 d21 c22 d22 c23 d23 c24 d24 c25 d25 c26 d26 c27 d27
    have c17 : w1.cell? ⟨n0, 17, none⟩ = some (.int .i64 yo) := (E1.out 17 _ rfl).1
    have c18 : w1.cell? ⟨n0, 18, none⟩ = some (.int .i64 ya) := (E1.out 18 _ rfl).1
    have c19 : w1.cell? ⟨n0, 19, none⟩ = some (.string ys) := (E1.out 19 _ rfl).1
    have c20 : w1.cell? ⟨n0, 20, none⟩ = some (.int .i64 yn) := (E1.out 20 _ rfl).1
    have c21 : w1.cell? ⟨n0, 21, none⟩ = some (.int .i64 yd) := (E1.out 21 _ rfl).1
    have c22 : w1.cell? ⟨n0, 22, none⟩ = some (.bool yf) := (E1.out 22 _ rfl).1
    have c23 : w1.cell? ⟨n0, 23, none⟩ = some (.int .i64 ym) := (E1.out 23 _ rfl).1
    have c24 : w1.cell? ⟨n0, 24, none⟩ = some (.int .i64 yr) := (E1.out 24 _ rfl).1
    have c25 : w1.cell? ⟨n0, 25, none⟩ = some (.int .i64 yy) := (E1.out 25 _ rfl).1
    have c26 : w1.cell? ⟨n0, 26, none⟩ = some (.slice yq yk yc) := (E1.out 26 _ rfl).1
    have d17 : w1.cell? ⟨n1, 17, none⟩ = some (.int .i64 vo) := (E2.out 17 _ rfl).1
    have d18 : w1.cell? ⟨n1, 18, none⟩ = some (.int .i64 va) := (E2.out 18 _ rfl).1
    have d19 : w1.cell? ⟨n1, 19, none⟩ = some (.string vs) := (E2.out 19 _ rfl).1
    have d20 : w1.cell? ⟨n1, 20, none⟩ = some (.int .i64 vn) := (E2.out 20 _ rfl).1
    have d21 : w1.cell? ⟨n1, 21, none⟩ = some (.int .i64 vd) := (E2.out 21 _ rfl).1
    have d22 : w1.cell? ⟨n1, 22, none⟩ = some (.bool vf) := (E2.out 22 _ rfl).1
    have d23 : w1.cell? ⟨n1, 23, none⟩ = some (.int .i64 vm) := (E2.out 23 _ rfl).1
    have d24 : w1.cell? ⟨n1, 24, none⟩ = some (.int .i64 vr) := (E2.out 24 _ rfl).1
    have d25 : w1.cell? ⟨n1, 25, none⟩ = some (.int .i64 vy) := (E2.out 25 _ rfl).1
    have d26 : w1.cell? ⟨n1, 26, none⟩ = some (.slice vq vk vc) := (E2.out 26 _ rfl).1
    go_wp2_with fail
    refine (KY.out _ HY1.out HY1'.out).mono ?_
    rintro _ w2 ⟨rfl, hb⟩
    have HB2 := Lib.hid (HB1.out.trans (hb.mono (by have := HB1.out.size; have := HN0.out; omega)))
    clear hb
    go_wp2_with fail
    go_ret
    exact ⟨rfl, HB2.out⟩
  | true =>
    rw [← hat rfl] at d27
    go_wp2_with fail
    refine (KX.out _ HX.out HX'.out).mono ?_
    rintro _ w1 ⟨rfl, hb⟩
    have HB1 := Lib.hid (HB.out.trans (hb.mono (by have := HB.out.size; have := HN0.out; omega)))
    have HY1 := Lib.hid (NodeA.bel hb _ _ HY.out)
    have HY1' := Lib.hid (NodeA.bel hb _ _ HY'.out)
    have E1 := Lib.hid (D1.out.of (hb.block n0 (D1.out.lt (by rw [rV_len]; decide))))
    have E2 := Lib.hid (D2.out.of (hb.block n1 (D2.out.lt (by rw [rV_len]; decide))))
    clear hb HB KX HX HX' HY HY' D1 D2 c0 d0 c1 d1 c2 d2 c3 d3 c4 d4 c5 d5 c6 d6 c7 d7 c8 d8 c9 d9 c10 d10 c11 d11 c12 d12 c13 d13 c14 d14 c15 d15 c16 d16 c17 d17 c18 d18 c19 d19 c20 d20 c21 d21 c22 d22 c23 d23 c24 d24 c25 d25 c26 d26 c27 d27
    have c17 : w1.cell? ⟨n0, 17, none⟩ = some (.int .i64 yo) := (E1.out 17 _ rfl).1
    have c18 : w1.cell? ⟨n0, 18, none⟩ = some (.int .i64 ya) := (E1.out 18 _ rfl).1
    have c19 : w1.cell? ⟨n0, 19, none⟩ = some (.string ys) := (E1.out 19 _ rfl).1
    have c20 : w1.cell? ⟨n0, 20, none⟩ = some (.int .i64 yn) := (E1.out 20 _ rfl).1
    have c21 : w1.cell? ⟨n0, 21, none⟩ = some (.int .i64 yd) := (E1.out 21 _ rfl).1
    have c22 : w1.cell? ⟨n0, 22, none⟩ = some (.bool yf) := (E1.out 22 _ rfl).1
    have c23 : w1.cell? ⟨n0, 23, none⟩ = some (.int .i64 ym) := (E1.out 23 _ rfl).1
    have c24 : w1.cell? ⟨n0, 24, none⟩ = some (.int .i64 yr) := (E1.out 24 _ rfl).1
    have c25 : w1.cell? ⟨n0, 25, none⟩ = some (.int .i64 yy) := (E1.out 25 _ rfl).1
    have c26 : w1.cell? ⟨n0, 26, none⟩ = some (.slice yq yk yc) := (E1.out 26 _ rfl).1
    have d17 : w1.cell? ⟨n1, 17, none⟩ = some (.int .i64 vo) := (E2.out 17 _ rfl).1
    have d18 : w1.cell? ⟨n1, 18, none⟩ = some (.int .i64 va) := (E2.out 18 _ rfl).1
    have d19 : w1.cell? ⟨n1, 19, none⟩ = some (.string vs) := (E2.out 19 _ rfl).1
    have d20 : w1.cell? ⟨n1, 20, none⟩ = some (.int .i64 vn) := (E2.out 20 _ rfl).1
    have d21 : w1.cell? ⟨n1, 21, none⟩ = some (.int .i64 vd) := (E2.out 21 _ rfl).1
    have d22 : w1.cell? ⟨n1, 22, none⟩ = some (.bool vf) := (E2.out 22 _ rfl).1
    have d23 : w1.cell? ⟨n1, 23, none⟩ = some (.int .i64 vm) := (E2.out 23 _ rfl).1
    have d24 : w1.cell? ⟨n1, 24, none⟩ = some (.int .i64 vr) := (E2.out 24 _ rfl).1
    have d25 : w1.cell? ⟨n1, 25, none⟩ = some (.int .i64 vy) := (E2.out 25 _ rfl).1
    have d26 : w1.cell? ⟨n1, 26, none⟩ = some (.slice vq vk vc) := (E2.out 26 _ rfl).1
    go_wp2_with fail
    refine (KY.out _ HY1.out HY1'.out).mono ?_
    rintro _ w2 ⟨rfl, hb⟩
    have HB2 := Lib.hid (HB1.out.trans (hb.mono (by have := HB1.out.size; have := HN0.out; omega)))
    clear hb
    go_wp2_with fail
    go_ret
    exact ⟨rfl, HB2.out⟩
end Go.Proofs.YtedbpjcglnkjmaaGreatDoor
namespace Go.Proofs.YtedbpjcglnkjmaaGreatDoor
open Go.RowKit Lx Pa

def hs1 : List UInt8 := [102, 97, 99, 116, 32, 114, 111, 111, 109, 115, 58, 32, 110, 117, 109, 98, 101, 114, 32, 49, 32, 116, 111, 32, 53, 59, 32, 99, 104, 97, 114, 103, 101, 32, 114, 101, 110, 116, 32, 49, 32, 102, 114, 111, 109, 32, 48, 32, 107, 110, 111, 119, 110, 32, 48, 32, 103, 105, 118, 101, 32, 114, 111, 111, 109, 115, 32, 42, 32, 49, 50, 46, 53, 48, 32, 109, 111, 110, 101, 121, 59]
def hs2 : List UInt8 := [99, 104, 97, 114, 103, 101, 32, 114, 101, 110, 116, 32, 49, 46, 53, 32, 102, 114, 111, 109, 32, 48, 32, 107, 110, 111, 119, 110, 32, 48, 59]
def hs3 : List UInt8 := [100, 117, 116, 121, 32, 120, 32, 49, 32, 102, 114, 111, 109, 32, 48, 59]
def hs4 : List UInt8 := [97, 32, 62, 32, 98, 32, 43, 32, 49]
def hs5 : List UInt8 := [97, 32, 43]
def hD : Decl := ⟨[114, 111, 111, 109, 115], 1, 1, 5, 21⟩
def hR : Rule := ⟨[114, 101, 110, 116], 1, 1, [], 0, 36525, 0, .mk 17 13 [] 0 0 1 [], .mk 5 5 [] 0 0 1 [.mk 2 5 [114, 111, 111, 109, 115] 0 0 1 [], .mk 1 3 [] 1250 1 2 []], 13⟩
def hN : Tree := .mk 11 5 [] 0 0 1 [.mk 3 3 [] 0 0 1 [.mk 2 3 [98] 0 0 1 [], .mk 1 1 [] 1 1 1 []], .mk 2 5 [97] 0 0 1 []]
/-- The same with byte offsets as places. -/
def hR' : Rule := ⟨[114, 101, 110, 116], 1, 1, [], 0, 36525, 0, .mk 17 27 [] 0 0 1 [], .mk 5 61 [] 0 0 1 [.mk 2 61 [114, 111, 111, 109, 115] 0 0 1 [], .mk 1 69 [] 1250 1 2 []], 27⟩
def hN' : Tree := .mk 11 0 [] 0 0 1 [.mk 3 4 [] 0 0 1 [.mk 2 4 [98] 0 0 1 [], .mk 1 8 [] 1 1 1 []], .mk 2 0 [97] 0 0 1 []]
def idO : Nat → Int := fun k => (k : Int)
theorem by1 : byR hs1 = ⟨[hD], [hR], []⟩ := by kernel_rfl
theorem by2 : byR hs2 = ⟨[], [], [(3, 6)]⟩ := by kernel_rfl
theorem by3 : byR hs3 = ⟨[], [], [(10, 1)]⟩ := by kernel_rfl
theorem of1 : ofsR hs1 21 = 0 ∧ ofsR hs1 13 = 27 ∧ ofsR hs1 5 = 61 ∧ ofsR hs1 3 = 69 := ⟨by kernel_rfl, by kernel_rfl, by kernel_rfl, by kernel_rfl⟩
theorem of2 : ofsR hs2 6 = 12 := by kernel_rfl
theorem of3 : ofsR hs3 1 = 15 := by kernel_rfl
theorem eq1 : eqR true (ofsR hs1) idO hR hR' := by
  refine ⟨rfl, rfl, rfl, rfl, rfl, rfl, rfl, fun _ => of1.2.1, ?_, ?_⟩
  · simp only [hR, hR', eqT, eqL, of1.2.1]; decide
  · simp only [hR, hR', eqT, eqL, of1.2.2.1, of1.2.2.2]; decide
theorem ex4 : exprR hs4 = .ok hN (ofsR hs4) := by kernel_rfl
theorem of4 : ofsR hs4 5 = 0 ∧ ofsR hs4 3 = 4 ∧ ofsR hs4 1 = 8 := ⟨by kernel_rfl, by kernel_rfl, by kernel_rfl⟩
theorem ex5 : exprR hs5 = .er 10 3 := by kernel_rfl
theorem eq4 : eqT true (ofsR hs4) idO hN hN' = true := by
  simp only [hN, hN', eqT, eqL, of4.1, of4.2.1, of4.2.2]; decide
/-- What lies in a block from its beginning on. -/
def RowAt (w : World) (b : Nat) (l : List Value) : Prop := ∀ (j : Nat) (v : Value), l[j]? = some v → w.cell? ⟨b, j, none⟩ = some v
theorem RowAt.of {w w1 : World} {b : Nat} {l : List Value} (h : RowAt w b l) (hb : w1.heap[b]? = w.heap[b]?) : RowAt w1 b l := fun j v hv => (World.cell?_of_block (w := w) (a := ⟨b, j, none⟩) hb).trans (h j v hv)
theorem RowAt.lt {w : World} {b : Nat} {l : List Value} (h : RowAt w b l) (hl : 0 < l.length) : b < w.heap.size := World.block_lt_of_cell? _ _ (h 0 l[0] (List.getElem?_eq_getElem hl))
theorem RowAt.bel {w w1 : World} {b : Nat} {l : List Value} (h : RowAt w b l) (hl : 0 < l.length) (hB : RowKit.Below w.heap.size w w1) : RowAt w1 b l := h.of (hB.block b (h.lt hl))
theorem own_at {w : World} {lo E size n : Nat} {v : Value} {xs : List Value} (h : w.ownsRow lo E size v n xs) (hn : 0 < n) : ∃ g cap, v = .slice (some ⟨g, 0, none⟩) n cap ∧ lo ≤ g ∧ g < w.heap.size ∧ RowAt w g xs ∧ n ≤ cap := by
  rcases h.2 with ⟨_, h0⟩ | ⟨g, cap, cur, h1, h2, h3, h4, h5, h6, h7⟩
  · omega
  · refine ⟨g, cap, h1, h2, (Array.getElem?_eq_some_iff.1 h3).1, fun j u hu => ?_, h4⟩
    rw [cell_of_row _ _ _ _ _ _ h3]
    rw [← h7, List.getElem?_take] at hu
    split at hu
    · rw [← Array.getElem?_toList]; exact hu
    · cases hu
/-- What Expr gives. -/
def ExpP (w0 : World) (l : List UInt8) (e : Ending) (w' : World) : Prop := RowKit.Below w0.heap.size w0 w' ∧ match exprR l with
  | .ok n ofs => ∃ x, e = .returned (.tuple #[nv x, .int .i64 0, .int .i64 0]) ∧ NodeV w' w0.heap.size ofs n x ∧ n.siz ≤ 200
  | .er E a => e = .returned (.tuple #[nv ⟨0, 0, ⟨#[]⟩, 0, 0, false, 0, 0, 0, none, 0, 0⟩, .int .i64 E, .int .i64 a]) ∧ E ≠ 0
theorem single_siz {ts r : List Tok} {n : Tree} (h : singleO M0 ts = .ok n r) : n.siz ≤ 200 := by
  unfold singleO at h
  obtain ⟨a, r1, -, h⟩ := bind_inv h
  split at h
  · cases h
  · split at h
    · cases h
    · rename_i hb
      cases h
      unfold big at hb
      simp only [Bool.or_eq_true, decide_eq_true_eq, not_or] at hb
      omega
theorem single_e {ts : List Tok} {E : Int} {q m : Nat} (h : singleO M0 ts = .er E q m) : E ≠ 0 := by
  unfold singleO at h
  have g := good_rd (M := M0) .ex ts
  cases hr : rd M0 .ex ts with
  | er e k m' =>
    rw [hr] at h g
    cases h
    rcases g.1 with rfl | rfl | rfl <;> decide
  | ok a r =>
    rw [hr, bind_ok] at h
    unfold Pa.bad at h
    split at h
    · cases h; decide
    · split at h
      · cases h; decide
      · cases h
theorem exprF_any (s : ByteArray) (hs : s.size ≤ 281474976710656) (w : World) : Calls Tryz.prog 13 #[.string s] w fun e w' => ExpP w s.data.toList e w' := by
  have hsz : s.size = s.data.toList.length := (len_bytes s).symm
  cases hx : lex Vh s.data.toList with
  | er E a =>
    have he : exprR s.data.toList = .er E a := by unfold exprR; rw [hx]
    unfold ExpP
    rw [he]
    refine (expr_er1W s hs E a a rfl hx w).mono ?_
    rintro e w' ⟨h1, h2⟩
    exact ⟨h2, h1, (lex_er hx).1⟩
  | ok ts =>
    cases hn : singleO M0 ts with
    | ok n r =>
      have he : exprR s.data.toList = .ok n (offs ts s.data.toList.length) := by unfold exprR; rw [hx]; simp only [hn]
      unfold ExpP
      rw [he]
      refine (expr_okW s hs ts hx n r hn w).mono ?_
      rintro e w' ⟨x, h1, h2, h3⟩
      refine ⟨h3, x, h1, ?_, single_siz hn⟩
      rw [← hsz]; exact h2
    | er E q m =>
      have he : exprR s.data.toList = .er E (offs ts s.data.toList.length q) := by unfold exprR; rw [hx]; simp only [hn]
      unfold ExpP
      rw [he]
      refine (expr_er2W s hs ts hx E q m (offs ts s.data.toList.length q) (by rw [hsz]) hn w).mono ?_
      rintro e w' ⟨h1, h2⟩
      exact ⟨h2, h1, single_e hn⟩
theorem parK {s : ByteArray} {l : List UInt8} {c : By} (w : World) (hs : s.data.toList = l) (hb : byR l = c) (hz : s.size ≤ 281474976710656) : Calls Tryz.prog 11 #[.string s] w fun e w' => ∃ vd vr vg, e = .returned (.tuple #[.agg #[vd, vr], vg]) ∧ ByV w' w.heap.size (ofsR l) c vd vr vg ∧ RowKit.Below w.heap.size w w' := by
  subst hs hb
  exact parse_any s hz w
theorem exprK {s : ByteArray} {l : List UInt8} {n : Tree} {ofs : Nat → Int} (w : World) (hs : s.data.toList = l) (hb : exprR l = .ok n ofs) (hz : s.size ≤ 281474976710656) : Calls Tryz.prog 13 #[.string s] w fun e w' => ∃ x, e = .returned (.tuple #[nv x, .int .i64 0, .int .i64 0]) ∧ NodeV w' w.heap.size ofs n x ∧ RowKit.Below w.heap.size w w' := by
  subst hs
  refine (exprF_any s hz w).mono ?_
  rintro e w' ⟨h1, h2⟩
  rw [hb] at h2
  obtain ⟨x, h2, h3, _⟩ := h2
  exact ⟨x, h2, h3, h1⟩
theorem exprE {s : ByteArray} {l : List UInt8} {E a : Int} (w : World) (hs : s.data.toList = l) (hb : exprR l = .er E a) (hz : s.size ≤ 281474976710656) : Calls Tryz.prog 13 #[.string s] w fun e w' => e = .returned (.tuple #[.agg #[.int .i64 0, .int .i64 0, .string ⟨#[]⟩, .int .i64 0, .int .i64 0, .bool false, .int .i64 0, .int .i64 0, .int .i64 0, .slice none 0 0], .int .i64 E, .int .i64 a]) ∧ RowKit.Below w.heap.size w w' := by
  subst hs
  refine (exprF_any s hz w).mono ?_
  rintro e w' ⟨h1, h2⟩
  rw [hb] at h2
  exact ⟨h2.1, h1⟩
theorem row_new (w : World) (l : List Value) (T : Nat) : RowAt (w.alloc (.cells l.toArray T)) w.heap.size l := fun j v hv => by
  rw [cell_of_row _ _ _ _ _ _ (heap_alloc_new w _), List.getElem?_toArray]; exact hv
section
variable {P : Program} {ops : Array Oper} {rest : List Oper} {o : Oper} {a : Act} {w w' : World} {Q : Exit → Act → World → Prop} {t : TypeId} {v : Value}
theorem wl_load {x : Operand} {y : Value} (hgd : o.guard = none) (ho : o.op = .load t x) (hx : a.eval x = y) (hr : (Instr.loadAt t y).run P w = .ok v w') (h : wpList P ops Q rest (a.put o.dst v) w') : wpList P ops Q (o :: rest) a w := wpList_plain hgd fun _ hK => wp_load ho hx hr (hK _ _ h)
theorem wl_slice2 {x z : Operand} {y u : Value} (hgd : o.guard = none) (ho : o.op = .buildSlice t 2 #[(0, x), (1, z)]) (hx : a.eval x = y) (hz : a.eval z = u) (hr : (Instr.buildSlice t 2 #[(0, y), (1, u)]).run P w = .ok v w') (h : wpList P ops Q rest (a.put o.dst v) w') : wpList P ops Q (o :: rest) a w :=
  wpList_plain hgd fun _ hK => by
    unfold Oper.wp execOp
    simp only [ho, Sem.run_bind, Sem.run_pure, List.map_toArray, List.map_cons, List.map_nil, hx, hz, hr]
    exact hK _ _ h
end
@[reducible] def hN1 : List Value := [.int .i64 2, .int .i64 61, .string (bs [114, 111, 111, 109, 115]), .int .i64 0, .int .i64 0, .bool false, .int .i64 0, .int .i64 0, .int .i64 0, .slice none 0 0]
@[reducible] def hN2 : List Value := [.int .i64 1, .int .i64 69, .string ⟨#[]⟩, .int .i64 1250, .int .i64 1, .bool false, .int .i64 1, .int .i64 0, .int .i64 0, .slice none 0 0]
@[reducible] def hNb : NV := ⟨2, 4, bs [98], 0, 0, false, 0, 0, 0, none, 0, 0⟩
@[reducible] def hNo : NV := ⟨1, 8, ⟨#[]⟩, 1, 1, false, 0, 0, 0, none, 0, 0⟩
@[reducible] def hNs (b : Nat) : NV := ⟨3, 4, ⟨#[]⟩, 0, 0, false, 0, 0, 0, some ⟨b, 0, none⟩, 2, 2⟩
@[reducible] def hNa : NV := ⟨2, 0, bs [97], 0, 0, false, 0, 0, 0, none, 0, 0⟩
@[reducible] def hNl (b : Nat) : NV := ⟨11, 0, ⟨#[]⟩, 0, 0, false, 0, 0, 0, some ⟨b, 0, none⟩, 2, 2⟩
theorem wl_build0 {P : Program} {ops : Array Oper} {rest : List Oper} {o : Oper} {a : Act} {w : World} {Q : Exit → Act → World → Prop} {t : TypeId} {l : List (Nat × Operand)} (v : Value) (hgd : o.guard = none) (ho : o.op = .build t l.toArray) (hr : (Instr.build t (l.map fun (i, x) => (i, a.eval x)).toArray).run P w = .ok v w) (h : wpList P ops Q rest (a.put o.dst v) w) : wpList P ops Q (o :: rest) a w := wl_build hgd ho hr h
theorem load_node (w : World) (b : Nat) (l : List Value) (hl : l.length = 10) (h : RowAt w b l) : (Instr.loadAt 36 (.pointer (some ⟨b, 0, none⟩))).run Tryz.prog w = .ok (.agg l.toArray) w :=
  load_row _ 10 (by kernel_rfl) (by kernel_rfl) w b l hl h
/-- What lies in memory within head. -/
structure HF (W : World) (cb g1 g2 c1 c2 db rb : Nat) (x y x' y' : NV) : Prop where
  c : At2 W cb (.slice (some ⟨g1, 0, none⟩) 1 c1) (.slice (some ⟨g2, 0, none⟩) 1 c2)
  d1 : RowAt W g1 (dV (ofsR hs1) hD)
  r1 : RowAt W g2 (rV (ofsR hs1) hR x y)
  nx : NodeA W (fun _ => True) (ofsR hs1) hR.whn x
  ny : NodeA W (fun _ => True) (ofsR hs1) hR.give y
  db : RowAt W db [.string (bs [114, 111, 111, 109, 115]), .bool false, .int .i64 0, .int .i64 0, .int .i64 0, .int .i64 1, .int .i64 5, .int .i64 0]
  rb : RowAt W rb (rV idO hR' x' y')
  mx : NodeA W (fun _ => True) idO hR'.whn x'
  my : NodeA W (fun _ => True) idO hR'.give y'
theorem HF.bel {W V : World} {cb g1 g2 c1 c2 db rb : Nat} {x y x' y' : NV} (h : HF W cb g1 g2 c1 c2 db rb x y x' y') (hB : RowKit.Below W.heap.size W V) : HF V cb g1 g2 c1 c2 db rb x y x' y' :=
  ⟨h.c.bel hB, h.d1.bel (by simp [dV]) hB, h.r1.bel (by rw [rV_len]; decide) hB, NodeA.bel hB _ _ h.nx, NodeA.bel hB _ _ h.ny, h.db.bel (by simp) hB, h.rb.bel (by rw [rV_len]; decide) hB, NodeA.bel hB _ _ h.mx, NodeA.bel hB _ _ h.my⟩
theorem leafA (w : World) (A : Nat → Prop) (ofs : Nat → Int) (op : Int) (pl : Nat) (nm : List UInt8) (n d : Int) (u : Nat) : NodeA w A ofs (.mk op pl nm n d u []) ⟨op, ofs pl, bs nm, n, d, uF u, uM u, uA u, uD u, none, 0, 0⟩ := by
  unfold NodeA
  exact ⟨⟨rfl, rfl, rfl, rfl, rfl, rfl, rfl, rfl, rfl, rfl⟩, 0, 0, fun h => absurd h (by simp), by simp only [KidsA]⟩
theorem wp_hide {P : Program} {Q : Exit → Act → World → Prop} {a : Act} {w : World} {c0 c1 c2 c3 c4 c5 c6 d : Code} (h : ∀ C, C = c6 → (c0.seq (c1.seq (c2.seq (c3.seq (c4.seq (c5.seq (C.seq d))))))).wp P Q a w) : (c0.seq (c1.seq (c2.seq (c3.seq (c4.seq (c5.seq (c6.seq d))))))).wp P Q a w := h _ rfl
end Go.Proofs.YtedbpjcglnkjmaaGreatDoor
namespace Go.Proofs.YtedbpjcglnkjmaaGreatDoor
open Go.RowKit Lx Pa

theorem wp_callv {P : Program} {o : Oper} {a : Act} {w : World} {K : Act → World → Prop} {Q : Exit → Act → World → Prop} {f : FuncId} {l : List Operand} {ts : Array TypeId} {vs : Array Value} (ho : o.op = .call { callee := .value (.func f), args := l.toArray, argTypes := ts }) (hv : (l.map a.eval).toArray = vs)
    (h : Calls P f vs w fun
      | .returned v, w'' => K (a.put o.dst v) w''
      | .panicked chain, w'' => Q (.panic chain) a w''
      | .outgrown, _ => LetsOut Q) (hn : (callFunc f vs).run P w = .ok (.enter f vs) w := by kernel_rfl) : Oper.wp P o a w K Q := by
  subst hv
  unfold Oper.wp execOp
  simp only [ho, resolve, invoke, Deferred.ofValue, Act.eval, Sem.run_bind, Sem.run_pure, Result.andThen_ok, List.map_toArray]
  rw [Array.empty_append, Array.append_empty, hn]
  exact h
theorem decl1 (w : World) : Calls Tryz.prog 21 #[.agg (dV (ofsR hs1) hD).toArray, .agg [.string (bs [114, 111, 111, 109, 115]), .bool false, .int .i64 0, .int .i64 0, .int .i64 0, .int .i64 1, .int .i64 5, .int .i64 0].toArray, .bool true] w fun e w' => e = .returned (.bool true) ∧ RowKit.Below w.heap.size w w' := by
  refine (sameDecl_any true hD.name hD.name (uF 1) false (uM 1) (uA 1) (uD 1) 0 0 0 1 5 (ofsR hs1 21) 1 5 0 w).mono ?_
  rintro e w' ⟨h1, h2⟩
  refine ⟨?_, h2⟩
  rw [h1, of1.1]
  rfl
set_option maxRecDepth 100000 in
set_option maxHeartbeats 4000000 in
theorem sameDiags_any (n : Nat) (z : Nat → Int) (b c cp cq : Nat) (pp pq : Option Addr) (w : World) (hp : 0 < n → pp = some ⟨b, 0, none⟩) (hq : 0 < n → pq = some ⟨c, 0, none⟩) (h1 : ∀ j, j < n * 2 → w.cell? ⟨b, j, none⟩ = some (.int .i64 (z j))) (h2 : ∀ j, j < n * 2 → w.cell? ⟨c, j, none⟩ = some (.int .i64 (z j))) (hn : n ≤ 1000000) :
    Calls Tryz.prog 16 #[.slice pp n cp, .slice pq n cq] w fun e w' => e = .returned (.bool true) ∧ RowKit.Below w.heap.size w w' := by
  have HB := Lib.hid (Below.refl w.heap.size w)
  have H1 := Lib.hid h1
  have H2 := Lib.hid h2
  have HP := Lib.hid hp
  have HQ := Lib.hid hq
  clear h1 h2 hp hq
  go_enter Tryz.func16, Tryz.ntmps16
  go_wp2_with fail
  go_loopg [5] n (fun g s5 wr => ∃ k : Nat, s5 = .int .i64 k ∧ k ≤ n ∧ n - k ≤ g ∧ Hid (RowKit.Below w.heap.size w wr))
  case atStart => exact ⟨0, rfl, by omega, by omega, HB⟩
  case round =>
    clear HB
    obtain ⟨k, rfl, hk, hg, HB⟩ := hrel
    by_cases he : k = n
    · have e1 : decide (k < n) = false := decide_eq_false (by omega)
      go_wp2_with fail
      go_ret
      exact ⟨rfl, HB.out⟩
    · have e1 : decide (k < n) = true := decide_eq_true (by omega)
      have hpp := HP.out (by omega)
      have hqq := HQ.out (by omega)
      subst hpp hqq
      have hkz : (k : Int) < (n : Int) := by omega
      have hk1 : IntKind.i64.wrap ((k : Int) + 1) = ((k + 1 : Nat) : Int) := by rw [IntWalk.i64_in _ (by omega)]; rfl
      have hbl : b < w.heap.size := World.block_lt_of_cell? _ _ (H1.out (k * 2) (by omega))
      have hcl : c < w.heap.size := World.block_lt_of_cell? _ _ (H2.out (k * 2) (by omega))
      have c0 := (HB.out.cell (p := ⟨b, k * 2, none⟩) hbl).trans (H1.out (k * 2) (by omega))
      have c1 := (HB.out.cell (p := ⟨b, k * 2 + 1, none⟩) hbl).trans (H1.out (k * 2 + 1) (by omega))
      have d0 := (HB.out.cell (p := ⟨c, k * 2, none⟩) hcl).trans (H2.out (k * 2) (by omega))
      have d1 := (HB.out.cell (p := ⟨c, k * 2 + 1, none⟩) hcl).trans (H2.out (k * 2 + 1) (by omega))
      clear hbl hcl
      go_wp2_with fail
      go_quiet (fail)
      go_wp2_with fail
      go_roundg (n - (k + 1))
      case measure => omega
      case rel => exact ⟨k + 1, rfl, by omega, Nat.le_refl _, below_drewN HB.out _⟩
end Go.Proofs.YtedbpjcglnkjmaaGreatDoor
