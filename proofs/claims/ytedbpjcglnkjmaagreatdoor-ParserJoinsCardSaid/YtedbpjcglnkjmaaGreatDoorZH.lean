/-
  Contract of the reference: Same, which compares two expressions.
  Contract of the reference: SameDecl, which compares two facts.
-/
import Derived.Test.YtedbpjcglnkjmaaGreatDoorZG
namespace Go.Proofs.YtedbpjcglnkjmaaGreatDoor
open Go.RowKit Lx Pa

mutual
/-- Are two expressions equal; at: their places, too? -/
def eqT (t : Bool) (f g : Nat → Int) : Tree → Tree → Bool
  | .mk o p nm n d u ks, .mk o' p' nm' n' d' u' ks' => o == o' && (!t || f p == g p') && nm == nm' && n == n' && d == d' && uF u == uF u' && uM u == uM u' && uA u == uA u' && uD u == uD u' && eqL t f g ks ks'
def eqL (t : Bool) (f g : Nat → Int) : List Tree → List Tree → Bool
  | [], [] => true
  | k :: ks, k' :: ks' => eqT t f g k k' && eqL t f g ks ks'
  | _, _ => false
end
theorem eqL_len {t : Bool} {f g : Nat → Int} : ∀ (a b : List Tree), eqL t f g a b = true → a.length = b.length
  | [], [], _ => rfl
  | k :: ks, k' :: ks', h => by
    simp only [eqL, Bool.and_eq_true] at h
    simp [eqL_len ks ks' h.2]
  | [], _ :: _, h => by simp [eqL] at h
  | _ :: _, [], h => by simp [eqL] at h
theorem eqL_split {t : Bool} {f g : Nat → Int} : ∀ (a b : List Tree) (i : Nat) (h : i < a.length) (h' : i < b.length), eqL t f g (a.drop i) (b.drop i) = (eqT t f g a[i] b[i] && eqL t f g (a.drop (i + 1)) (b.drop (i + 1))) := fun a b i h h' => by
  rw [List.drop_eq_getElem_cons h, List.drop_eq_getElem_cons h']
  simp only [eqL]
theorem node_fields {w : World} {A : Nat → Prop} {ofs : Nat → Int} {op pl nm n d u ks} {x : NV} (h : NodeA w A ofs (.mk op pl nm n d u ks) x) : ∃ q c, x = ⟨op, ofs pl, bs nm, n, d, uF u, uM u, uA u, uD u, q, ks.length, c⟩ ∧ ∃ b off, (0 < ks.length → q = some ⟨b, off, none⟩ ∧ A b ∧ b < w.heap.size) ∧ KidsA w A ofs b off ks := by
  obtain ⟨xo, xa, xs, xn, xd, xf, xm, xr, xy, xq, xk, xc⟩ := x
  unfold NodeA at h
  obtain ⟨⟨h1, h2, h3, h4, h5, h6, h7, h8, h9, h10⟩, h⟩ := h
  simp only at h1 h2 h3 h4 h5 h6 h7 h8 h9 h10 h
  subst h1 h2 h3 h4 h5 h6 h7 h8 h9 h10
  exact ⟨xq, xc, rfl, h⟩
theorem bsq_ne {a b : List UInt8} (h : a ≠ b) : ((bs a).toList == (bs b).toList) = false := by rw [bs_list, bs_list]; simpa using h
set_option maxRecDepth 100000 in
set_option maxHeartbeats 12000000 in
theorem same_no (t : Bool) (f g : Nat → Int) (op pl : _) (nm : List UInt8) (n0 d0 : Int) (u : Nat) (ks : List Tree) (op' pl' : _) (nm' : List UInt8) (n0' d0' : Int) (u' : Nat) (ks' : List Tree) (xq yq : Option Addr) (xc yc : Nat) (w : World)
    (h : (op == op' && (!t || f pl == g pl') && nm == nm' && n0 == n0' && d0 == d0' && uF u == uF u' && uM u == uM u' && uA u == uA u' && uD u == uD u' && decide (ks.length = ks'.length)) = false) :
    Calls Tryz.prog 17 #[.agg #[.int .i64 op, .int .i64 (f pl), .string (bs nm), .int .i64 n0, .int .i64 d0, .bool (uF u), .int .i64 (uM u), .int .i64 (uA u), .int .i64 (uD u), .slice xq ks.length xc], .agg #[.int .i64 op', .int .i64 (g pl'), .string (bs nm'), .int .i64 n0', .int .i64 d0', .bool (uF u'), .int .i64 (uM u'), .int .i64 (uA u'), .int .i64 (uD u'), .slice yq ks'.length yc], .bool t] w fun e w' => e = .returned (.bool false) ∧ RowKit.Below w.heap.size w w' := by
  have HR := Lib.hid (Below.refl w.heap.size w)
  generalize f pl = fa at *
  generalize g pl' = ga at *
  generalize uF u = a5 at *
  generalize uF u' = b5 at *
  generalize uM u = a6 at *
  generalize uM u' = b6 at *
  generalize uA u = a7 at *
  generalize uA u' = b7 at *
  generalize uD u = a8 at *
  generalize uD u' = b8 at *
  generalize ks.length = kl at *
  generalize ks'.length = kl' at *
  by_cases h1 : op = op'
  · subst h1
    cases t with
    | false =>
      by_cases hx : nm = nm'
      · subst hx
        by_cases hx : n0 = n0'
        · subst hx
          by_cases hx : d0 = d0'
          · subst hx
            by_cases hx : a5 = b5
            · subst hx
              by_cases hx : a6 = b6
              · subst hx
                by_cases hx : a7 = b7
                · subst hx
                  by_cases hx : a8 = b8
                  · subst hx
                    have hx : kl ≠ kl' := by simpa using h
                    have e1 : ((kl : Int) == (kl' : Int)) = false := by simp; omega
                    clear h
                    go_enter Tryz.func17, Tryz.ntmps17
                    go_wp2_with fail
                    all_goals
                      go_ret
                      exact ⟨rfl, (by repeat' (first | (with_reducible exact HR.out) | (with_reducible refine Below.setCell ?_ ?_ _) | (with_reducible refine Below.alloc ?_ ?_ _) | (with_reducible refine Below.drew ?_) | (with_reducible refine below_drewN ?_ _) | (with_reducible exact Below.refl _ _) | omega | (simp; done) | (simp; omega)))⟩
                  · have e1 : (a8 == b8) = false := by simpa using hx
                    clear h hx
                    go_enter Tryz.func17, Tryz.ntmps17
                    go_wp2_with fail
                    all_goals
                      go_ret
                      exact ⟨rfl, (by repeat' (first | (with_reducible exact HR.out) | (with_reducible refine Below.setCell ?_ ?_ _) | (with_reducible refine Below.alloc ?_ ?_ _) | (with_reducible refine Below.drew ?_) | (with_reducible refine below_drewN ?_ _) | (with_reducible exact Below.refl _ _) | omega | (simp; done) | (simp; omega)))⟩
                · have e1 : (a7 == b7) = false := by simpa using hx
                  clear h hx
                  go_enter Tryz.func17, Tryz.ntmps17
                  go_wp2_with fail
                  all_goals
                    go_ret
                    exact ⟨rfl, (by repeat' (first | (with_reducible exact HR.out) | (with_reducible refine Below.setCell ?_ ?_ _) | (with_reducible refine Below.alloc ?_ ?_ _) | (with_reducible refine Below.drew ?_) | (with_reducible refine below_drewN ?_ _) | (with_reducible exact Below.refl _ _) | omega | (simp; done) | (simp; omega)))⟩
              · have e1 : (a6 == b6) = false := by simpa using hx
                clear h hx
                go_enter Tryz.func17, Tryz.ntmps17
                go_wp2_with fail
                all_goals
                  go_ret
                  exact ⟨rfl, (by repeat' (first | (with_reducible exact HR.out) | (with_reducible refine Below.setCell ?_ ?_ _) | (with_reducible refine Below.alloc ?_ ?_ _) | (with_reducible refine Below.drew ?_) | (with_reducible refine below_drewN ?_ _) | (with_reducible exact Below.refl _ _) | omega | (simp; done) | (simp; omega)))⟩
            · have e1 : (a5 == b5) = false := by simpa using hx
              clear h hx
              go_enter Tryz.func17, Tryz.ntmps17
              go_wp2_with fail
              all_goals
                go_ret
                exact ⟨rfl, (by repeat' (first | (with_reducible exact HR.out) | (with_reducible refine Below.setCell ?_ ?_ _) | (with_reducible refine Below.alloc ?_ ?_ _) | (with_reducible refine Below.drew ?_) | (with_reducible refine below_drewN ?_ _) | (with_reducible exact Below.refl _ _) | omega | (simp; done) | (simp; omega)))⟩
          · have e1 : (d0 == d0') = false := by simpa using hx
            clear h hx
            go_enter Tryz.func17, Tryz.ntmps17
            go_wp2_with fail
            all_goals
              go_ret
              exact ⟨rfl, (by repeat' (first | (with_reducible exact HR.out) | (with_reducible refine Below.setCell ?_ ?_ _) | (with_reducible refine Below.alloc ?_ ?_ _) | (with_reducible refine Below.drew ?_) | (with_reducible refine below_drewN ?_ _) | (with_reducible exact Below.refl _ _) | omega | (simp; done) | (simp; omega)))⟩
        · have e1 : (n0 == n0') = false := by simpa using hx
          clear h hx
          go_enter Tryz.func17, Tryz.ntmps17
          go_wp2_with fail
          all_goals
            go_ret
            exact ⟨rfl, (by repeat' (first | (with_reducible exact HR.out) | (with_reducible refine Below.setCell ?_ ?_ _) | (with_reducible refine Below.alloc ?_ ?_ _) | (with_reducible refine Below.drew ?_) | (with_reducible refine below_drewN ?_ _) | (with_reducible exact Below.refl _ _) | omega | (simp; done) | (simp; omega)))⟩
      · have e1 := bsq_ne hx
        clear h hx
        go_enter Tryz.func17, Tryz.ntmps17
        go_wp2_with fail
        all_goals
          go_ret
          exact ⟨rfl, (by repeat' (first | (with_reducible exact HR.out) | (with_reducible refine Below.setCell ?_ ?_ _) | (with_reducible refine Below.alloc ?_ ?_ _) | (with_reducible refine Below.drew ?_) | (with_reducible refine below_drewN ?_ _) | (with_reducible exact Below.refl _ _) | omega | (simp; done) | (simp; omega)))⟩
    | true =>
      by_cases h2 : fa = ga
      · subst h2
        by_cases hx : nm = nm'
        · subst hx
          by_cases hx : n0 = n0'
          · subst hx
            by_cases hx : d0 = d0'
            · subst hx
              by_cases hx : a5 = b5
              · subst hx
                by_cases hx : a6 = b6
                · subst hx
                  by_cases hx : a7 = b7
                  · subst hx
                    by_cases hx : a8 = b8
                    · subst hx
                      have hx : kl ≠ kl' := by simpa using h
                      have e1 : ((kl : Int) == (kl' : Int)) = false := by simp; omega
                      clear h
                      go_enter Tryz.func17, Tryz.ntmps17
                      go_wp2_with fail
                      all_goals
                        go_ret
                        exact ⟨rfl, (by repeat' (first | (with_reducible exact HR.out) | (with_reducible refine Below.setCell ?_ ?_ _) | (with_reducible refine Below.alloc ?_ ?_ _) | (with_reducible refine Below.drew ?_) | (with_reducible refine below_drewN ?_ _) | (with_reducible exact Below.refl _ _) | omega | (simp; done) | (simp; omega)))⟩
                    · have e1 : (a8 == b8) = false := by simpa using hx
                      clear h hx
                      go_enter Tryz.func17, Tryz.ntmps17
                      go_wp2_with fail
                      all_goals
                        go_ret
                        exact ⟨rfl, (by repeat' (first | (with_reducible exact HR.out) | (with_reducible refine Below.setCell ?_ ?_ _) | (with_reducible refine Below.alloc ?_ ?_ _) | (with_reducible refine Below.drew ?_) | (with_reducible refine below_drewN ?_ _) | (with_reducible exact Below.refl _ _) | omega | (simp; done) | (simp; omega)))⟩
                  · have e1 : (a7 == b7) = false := by simpa using hx
                    clear h hx
                    go_enter Tryz.func17, Tryz.ntmps17
                    go_wp2_with fail
                    all_goals
                      go_ret
                      exact ⟨rfl, (by repeat' (first | (with_reducible exact HR.out) | (with_reducible refine Below.setCell ?_ ?_ _) | (with_reducible refine Below.alloc ?_ ?_ _) | (with_reducible refine Below.drew ?_) | (with_reducible refine below_drewN ?_ _) | (with_reducible exact Below.refl _ _) | omega | (simp; done) | (simp; omega)))⟩
                · have e1 : (a6 == b6) = false := by simpa using hx
                  clear h hx
                  go_enter Tryz.func17, Tryz.ntmps17
                  go_wp2_with fail
                  all_goals
                    go_ret
                    exact ⟨rfl, (by repeat' (first | (with_reducible exact HR.out) | (with_reducible refine Below.setCell ?_ ?_ _) | (with_reducible refine Below.alloc ?_ ?_ _) | (with_reducible refine Below.drew ?_) | (with_reducible refine below_drewN ?_ _) | (with_reducible exact Below.refl _ _) | omega | (simp; done) | (simp; omega)))⟩
              · have e1 : (a5 == b5) = false := by simpa using hx
                clear h hx
                go_enter Tryz.func17, Tryz.ntmps17
                go_wp2_with fail
                all_goals
                  go_ret
                  exact ⟨rfl, (by repeat' (first | (with_reducible exact HR.out) | (with_reducible refine Below.setCell ?_ ?_ _) | (with_reducible refine Below.alloc ?_ ?_ _) | (with_reducible refine Below.drew ?_) | (with_reducible refine below_drewN ?_ _) | (with_reducible exact Below.refl _ _) | omega | (simp; done) | (simp; omega)))⟩
            · have e1 : (d0 == d0') = false := by simpa using hx
              clear h hx
              go_enter Tryz.func17, Tryz.ntmps17
              go_wp2_with fail
              all_goals
                go_ret
                exact ⟨rfl, (by repeat' (first | (with_reducible exact HR.out) | (with_reducible refine Below.setCell ?_ ?_ _) | (with_reducible refine Below.alloc ?_ ?_ _) | (with_reducible refine Below.drew ?_) | (with_reducible refine below_drewN ?_ _) | (with_reducible exact Below.refl _ _) | omega | (simp; done) | (simp; omega)))⟩
          · have e1 : (n0 == n0') = false := by simpa using hx
            clear h hx
            go_enter Tryz.func17, Tryz.ntmps17
            go_wp2_with fail
            all_goals
              go_ret
              exact ⟨rfl, (by repeat' (first | (with_reducible exact HR.out) | (with_reducible refine Below.setCell ?_ ?_ _) | (with_reducible refine Below.alloc ?_ ?_ _) | (with_reducible refine Below.drew ?_) | (with_reducible refine below_drewN ?_ _) | (with_reducible exact Below.refl _ _) | omega | (simp; done) | (simp; omega)))⟩
        · have e1 := bsq_ne hx
          clear h hx
          go_enter Tryz.func17, Tryz.ntmps17
          go_wp2_with fail
          all_goals
            go_ret
            exact ⟨rfl, (by repeat' (first | (with_reducible exact HR.out) | (with_reducible refine Below.setCell ?_ ?_ _) | (with_reducible refine Below.alloc ?_ ?_ _) | (with_reducible refine Below.drew ?_) | (with_reducible refine below_drewN ?_ _) | (with_reducible exact Below.refl _ _) | omega | (simp; done) | (simp; omega)))⟩
      · have e1 : (fa == ga) = false := by simpa using h2
        clear h
        go_enter Tryz.func17, Tryz.ntmps17
        go_wp2_with fail
        all_goals
          go_ret
          exact ⟨rfl, (by repeat' (first | (with_reducible exact HR.out) | (with_reducible refine Below.setCell ?_ ?_ _) | (with_reducible refine Below.alloc ?_ ?_ _) | (with_reducible refine Below.drew ?_) | (with_reducible refine below_drewN ?_ _) | (with_reducible exact Below.refl _ _) | omega | (simp; done) | (simp; omega)))⟩
  · have e1 : (op == op') = false := by simpa using h1
    clear h
    go_enter Tryz.func17, Tryz.ntmps17
    go_wp2_with fail
    all_goals
      go_ret
      exact ⟨rfl, (by repeat' (first | (with_reducible exact HR.out) | (with_reducible refine Below.setCell ?_ ?_ _) | (with_reducible refine Below.alloc ?_ ?_ _) | (with_reducible refine Below.drew ?_) | (with_reducible refine below_drewN ?_ _) | (with_reducible exact Below.refl _ _) | omega | (simp; done) | (simp; omega)))⟩
set_option maxRecDepth 100000 in
set_option maxHeartbeats 20000000 in
theorem same_false (f g : Nat → Int) (op fa ga : Int) (nm : List UInt8) (n0 d0 : Int) (a5 : Bool) (a6 a7 a8 : Int) (ks ks' : List Tree) (kl : Nat) (hk : ks.length = kl) (hk' : ks'.length = kl) (hkm : kl ≤ 1000000) (xq yq : Option Addr) (xc yc bx ox bq oq : Nat) (A A' : Nat → Prop) (w : World)
    (hx : 0 < kl → xq = some ⟨bx, ox, none⟩ ∧ A bx ∧ bx < w.heap.size) (hX : KidsA w A f bx ox ks) (hy : 0 < kl → yq = some ⟨bq, oq, none⟩ ∧ A' bq ∧ bq < w.heap.size) (hY : KidsA w A' g bq oq ks')
    (ih : ∀ (i : Nat) (h : i < ks.length) (h' : i < ks'.length) (x y : NV) (v : World), NodeA v A f ks[i] x → NodeA v A' g ks'[i] y → Calls Tryz.prog 17 #[nv x, nv y, .bool false] v fun e w' => e = .returned (.bool (eqT false f g ks[i] ks'[i])) ∧ RowKit.Below v.heap.size v w') :
    Calls Tryz.prog 17 #[.agg #[.int .i64 op, .int .i64 fa, .string (bs nm), .int .i64 n0, .int .i64 d0, .bool a5, .int .i64 a6, .int .i64 a7, .int .i64 a8, .slice xq kl xc], .agg #[.int .i64 op, .int .i64 ga, .string (bs nm), .int .i64 n0, .int .i64 d0, .bool a5, .int .i64 a6, .int .i64 a7, .int .i64 a8, .slice yq kl yc], .bool false] w fun e w' => e = .returned (.bool (eqL false f g ks ks')) ∧ RowKit.Below w.heap.size w w' := by
  obtain ⟨W1, hW1⟩ : ∃ W1, W1 = (w.alloc (.cells #[.int .i64 op, .int .i64 fa, .string (bs nm), .int .i64 n0, .int .i64 d0, .bool a5, .int .i64 a6, .int .i64 a7, .int .i64 a8, .slice xq kl xc] 36)).alloc (.cells #[.int .i64 op, .int .i64 ga, .string (bs nm), .int .i64 n0, .int .i64 d0, .bool a5, .int .i64 a6, .int .i64 a7, .int .i64 a8, .slice yq kl yc] 36) := ⟨_, rfl⟩
  have h1 : ∀ (v : World) (o : Obj), RowKit.Below v.heap.size v (v.alloc o) := fun v o => (Below.refl _ _).alloc (Nat.le_refl _) o
  have HB : Hid (RowKit.Below w.heap.size w W1) := by
    show RowKit.Below _ _ _
    rw [hW1]; exact (h1 w _).trans ((h1 _ _).mono (by simp))
  have BX : Hid (B10 W1 w.heap.size (.int .i64 op) (.int .i64 fa) (.string (bs nm)) (.int .i64 n0) (.int .i64 d0) (.bool a5) (.int .i64 a6) (.int .i64 a7) (.int .i64 a8) (.slice xq kl xc)) := by
    show B10 _ _ _ _ _ _ _ _ _ _ _ _
    rw [hW1]; exact (B10.new w _ _ _ _ _ _ _ _ _ _ _).bel (h1 _ _)
  have BY : Hid (B10 W1 (w.heap.size + 1) (.int .i64 op) (.int .i64 ga) (.string (bs nm)) (.int .i64 n0) (.int .i64 d0) (.bool a5) (.int .i64 a6) (.int .i64 a7) (.int .i64 a8) (.slice yq kl yc)) := by
    have := B10.new (w.alloc (.cells #[.int .i64 op, .int .i64 fa, .string (bs nm), .int .i64 n0, .int .i64 d0, .bool a5, .int .i64 a6, .int .i64 a7, .int .i64 a8, .slice xq kl xc] 36)) (.int .i64 op) (.int .i64 ga) (.string (bs nm)) (.int .i64 n0) (.int .i64 d0) (.bool a5) (.int .i64 a6) (.int .i64 a7) (.int .i64 a8) (.slice yq kl yc) 36
    rw [World.size_alloc] at this
    show B10 _ _ _ _ _ _ _ _ _ _ _ _
    rw [hW1]; exact this
  have HX := Lib.hid hX
  have HY := Lib.hid hY
  have HPX := Lib.hid hx
  have HPY := Lib.hid hy
  have IH := Lib.hid ih
  generalize hR : eqL false f g ks ks' = R
  have HR : Hid (eqL false f g (ks.drop 0) (ks'.drop 0) = R) := by show _ = _; rw [List.drop_zero, List.drop_zero]; exact hR
  clear hX hY hx hy ih h1 hR
  go_enter Tryz.func17, Tryz.ntmps17
  go_wp2_with fail
  rw [← hW1]
  clear hW1
  go_loopg [7] kl (fun g0 v7 wr => ∃ i : Nat, i ≤ kl ∧ kl - i ≤ g0 ∧ v7 = .int .i64 i ∧ Hid (eqL false f g (ks.drop i) (ks'.drop i) = R) ∧ Hid (RowKit.Below W1.heap.size W1 wr))
  case atStart => exact ⟨0, Nat.zero_le _, by omega, by simp, HR, Below.refl _ _⟩
  case round =>
    clear HR
    obtain ⟨i, hi, hg, rfl, HR, HV⟩ := hrel
    have hwW : w.heap.size ≤ W1.heap.size := HB.out.size
    have HBw := Lib.hid (HB.out.trans (HV.out.mono HB.out.size))
    have x9 := (BX.out.bel HV.out).c9
    have y9 := (BY.out.bel HV.out).c9
    by_cases hlt : i < kl
    · have hz : (i : Int) < (kl : Int) := by omega
      have e2 : IntKind.i64.wrap ((i : Int) + 1) = ((i + 1 : Nat) : Int) := by rw [IntWalk.i64_in _ (by omega)]; rfl
      obtain ⟨rfl, -, hbx⟩ := HPX.out (by omega)
      obtain ⟨rfl, -, hbq⟩ := HPY.out (by omega)
      obtain ⟨⟨uo, ua, us, un, ud, uf, um, ur, uy, uq, uk, uc⟩, hc, hn⟩ := kids_get ks ox i (by omega) (KidsA.keep HBw.out.size (fun j _ hj => HBw.out.block j hj) (fun _ h _ => h) bx (HPX.out (by omega)).2.1 hbx ox ks HX.out)
      obtain ⟨⟨vo, va, vs, vn, vd, vf, vm, vr, vy, vq, vk, vc⟩, hc', hn'⟩ := kids_get ks' oq i (by omega) (KidsA.keep HBw.out.size (fun j _ hj => HBw.out.block j hj) (fun _ h _ => h) bq (HPY.out (by omega)).2.1 hbq oq ks' HY.out)
      have hs := HBw.out.size
      have z0 := cell_bw (by show bx < _; omega) (hc 0 _ rfl)
      have q0 := cell_bw (by show bq < _; omega) (hc' 0 _ rfl)
      have z1 := cell_bw (by show bx < _; omega) (hc 1 _ rfl)
      have q1 := cell_bw (by show bq < _; omega) (hc' 1 _ rfl)
      have z2 := cell_bw (by show bx < _; omega) (hc 2 _ rfl)
      have q2 := cell_bw (by show bq < _; omega) (hc' 2 _ rfl)
      have z3 := cell_bw (by show bx < _; omega) (hc 3 _ rfl)
      have q3 := cell_bw (by show bq < _; omega) (hc' 3 _ rfl)
      have z4 := cell_bw (by show bx < _; omega) (hc 4 _ rfl)
      have q4 := cell_bw (by show bq < _; omega) (hc' 4 _ rfl)
      have z5 := cell_bw (by show bx < _; omega) (hc 5 _ rfl)
      have q5 := cell_bw (by show bq < _; omega) (hc' 5 _ rfl)
      have z6 := cell_bw (by show bx < _; omega) (hc 6 _ rfl)
      have q6 := cell_bw (by show bq < _; omega) (hc' 6 _ rfl)
      have z7 := cell_bw (by show bx < _; omega) (hc 7 _ rfl)
      have q7 := cell_bw (by show bq < _; omega) (hc' 7 _ rfl)
      have z8 := cell_bw (by show bx < _; omega) (hc 8 _ rfl)
      have q8 := cell_bw (by show bq < _; omega) (hc' 8 _ rfl)
      have z9 := cell_bw (by show bx < _; omega) (hc 9 _ rfl)
      have q9 := cell_bw (by show bq < _; omega) (hc' 9 _ rfl)
      rw [Nat.add_zero] at z0 q0
      have X9 := cell_bw (World.block_lt_of_cell? _ _ x9) x9
      have Y9 := cell_bw (World.block_lt_of_cell? _ _ y9) y9
      have KQ := Lib.hid (fun (p : Bw wr) => IH.out i (by omega) (by omega) ⟨uo, ua, us, un, ud, uf, um, ur, uy, uq, uk, uc⟩ ⟨vo, va, vs, vn, vd, vf, vm, vr, vy, vq, vk, vc⟩ p.w' (NodeA.keep p.h.size (fun j _ hj => p.h.block j hj) (fun _ h _ => h) _ _ hn) (NodeA.keep p.h.size (fun j _ hj => p.h.block j hj) (fun _ h _ => h) _ _ hn'))
      unfold nv at KQ
      have HR2 := HR.out
      rw [eqL_split ks ks' i (by omega) (by omega)] at HR2
      have hK1 := hk
      clear hc hc' hn hn'
      cases hq : eqT false f g (ks[i]'(by omega)) (ks'[i]'(by omega)) with
      | false =>
        rw [hq] at HR2
        simp only [hq] at KQ
        have HE : Hid (R = false) := by show _ = _; rw [← HR2]; rfl
        clear HR2
        go_wp2_with fail
        refine wp_region_bw mixed (by kernel_rfl) ?_
        repeat (go_big_quiet_step ((with_reducible refine Calls.bw_of (KQ.out _))))
        refine wpQuiet_nil ?_
        intro W HW
        replace HW := bw_out HW
        clear z0 z1 z2 z3 z4 z5 z6 z7 z8 z9 q0 q1 q2 q3 q4 q5 q6 q7 q8 q9 X9 Y9 KQ
        have HF := Lib.hid (HBw.out.trans (HW.mono HBw.out.size))
        clear HW
        go_wp2_with fail
        go_ret
        exact ⟨ret_bool HE.out.symm, HF.out⟩
      | true =>
        rw [hq, Bool.true_and] at HR2
        simp only [hq] at KQ
        replace HR := Lib.hid HR2
        clear HR2
        go_wp2_with fail
        refine wp_region_bw mixed (by kernel_rfl) ?_
        repeat (go_big_quiet_step ((with_reducible refine Calls.bw_of (KQ.out _))))
        refine wpQuiet_nil ?_
        intro W HW
        replace HW := bw_out HW
        clear z0 z1 z2 z3 z4 z5 z6 z7 z8 z9 q0 q1 q2 q3 q4 q5 q6 q7 q8 q9 X9 Y9 KQ
        have HF := Lib.hid (HV.out.trans (HW.mono HV.out.size))
        clear HW
        go_wp2_with fail
        go_roundg (kl - (i + 1))
        case measure => omega
        case rel => exact ⟨i + 1, by omega, Nat.le_refl _, by first | rfl | simp, HR, HF⟩
    · have hz : ¬ (i : Int) < (kl : Int) := by omega
      have hie : i = kl := by omega
      subst hie
      have HE : Hid (R = true) := by
        show _ = _
        rw [← HR.out, List.drop_eq_nil_of_le (by omega), List.drop_eq_nil_of_le (by omega)]
        simp [eqL]
      go_wp2_with fail
      go_ret
      exact ⟨ret_bool HE.out.symm, HBw.out⟩
set_option maxRecDepth 100000 in
set_option maxHeartbeats 20000000 in
theorem same_true (f g : Nat → Int) (op fa : Int) (nm : List UInt8) (n0 d0 : Int) (a5 : Bool) (a6 a7 a8 : Int) (ks ks' : List Tree) (kl : Nat) (hk : ks.length = kl) (hk' : ks'.length = kl) (hkm : kl ≤ 1000000) (xq yq : Option Addr) (xc yc bx ox bq oq : Nat) (A A' : Nat → Prop) (w : World)
    (hx : 0 < kl → xq = some ⟨bx, ox, none⟩ ∧ A bx ∧ bx < w.heap.size) (hX : KidsA w A f bx ox ks) (hy : 0 < kl → yq = some ⟨bq, oq, none⟩ ∧ A' bq ∧ bq < w.heap.size) (hY : KidsA w A' g bq oq ks')
    (ih : ∀ (i : Nat) (h : i < ks.length) (h' : i < ks'.length) (x y : NV) (v : World), NodeA v A f ks[i] x → NodeA v A' g ks'[i] y → Calls Tryz.prog 17 #[nv x, nv y, .bool true] v fun e w' => e = .returned (.bool (eqT true f g ks[i] ks'[i])) ∧ RowKit.Below v.heap.size v w') :
    Calls Tryz.prog 17 #[.agg #[.int .i64 op, .int .i64 fa, .string (bs nm), .int .i64 n0, .int .i64 d0, .bool a5, .int .i64 a6, .int .i64 a7, .int .i64 a8, .slice xq kl xc], .agg #[.int .i64 op, .int .i64 fa, .string (bs nm), .int .i64 n0, .int .i64 d0, .bool a5, .int .i64 a6, .int .i64 a7, .int .i64 a8, .slice yq kl yc], .bool true] w fun e w' => e = .returned (.bool (eqL true f g ks ks')) ∧ RowKit.Below w.heap.size w w' := by
  obtain ⟨W1, hW1⟩ : ∃ W1, W1 = (w.alloc (.cells #[.int .i64 op, .int .i64 fa, .string (bs nm), .int .i64 n0, .int .i64 d0, .bool a5, .int .i64 a6, .int .i64 a7, .int .i64 a8, .slice xq kl xc] 36)).alloc (.cells #[.int .i64 op, .int .i64 fa, .string (bs nm), .int .i64 n0, .int .i64 d0, .bool a5, .int .i64 a6, .int .i64 a7, .int .i64 a8, .slice yq kl yc] 36) := ⟨_, rfl⟩
  have h1 : ∀ (v : World) (o : Obj), RowKit.Below v.heap.size v (v.alloc o) := fun v o => (Below.refl _ _).alloc (Nat.le_refl _) o
  have HB : Hid (RowKit.Below w.heap.size w W1) := by
    show RowKit.Below _ _ _
    rw [hW1]; exact (h1 w _).trans ((h1 _ _).mono (by simp))
  have BX : Hid (B10 W1 w.heap.size (.int .i64 op) (.int .i64 fa) (.string (bs nm)) (.int .i64 n0) (.int .i64 d0) (.bool a5) (.int .i64 a6) (.int .i64 a7) (.int .i64 a8) (.slice xq kl xc)) := by
    show B10 _ _ _ _ _ _ _ _ _ _ _ _
    rw [hW1]; exact (B10.new w _ _ _ _ _ _ _ _ _ _ _).bel (h1 _ _)
  have BY : Hid (B10 W1 (w.heap.size + 1) (.int .i64 op) (.int .i64 fa) (.string (bs nm)) (.int .i64 n0) (.int .i64 d0) (.bool a5) (.int .i64 a6) (.int .i64 a7) (.int .i64 a8) (.slice yq kl yc)) := by
    have := B10.new (w.alloc (.cells #[.int .i64 op, .int .i64 fa, .string (bs nm), .int .i64 n0, .int .i64 d0, .bool a5, .int .i64 a6, .int .i64 a7, .int .i64 a8, .slice xq kl xc] 36)) (.int .i64 op) (.int .i64 fa) (.string (bs nm)) (.int .i64 n0) (.int .i64 d0) (.bool a5) (.int .i64 a6) (.int .i64 a7) (.int .i64 a8) (.slice yq kl yc) 36
    rw [World.size_alloc] at this
    show B10 _ _ _ _ _ _ _ _ _ _ _ _
    rw [hW1]; exact this
  have HX := Lib.hid hX
  have HY := Lib.hid hY
  have HPX := Lib.hid hx
  have HPY := Lib.hid hy
  have IH := Lib.hid ih
  generalize hR : eqL true f g ks ks' = R
  have HR : Hid (eqL true f g (ks.drop 0) (ks'.drop 0) = R) := by show _ = _; rw [List.drop_zero, List.drop_zero]; exact hR
  clear hX hY hx hy ih h1 hR
  go_enter Tryz.func17, Tryz.ntmps17
  go_wp2_with fail
  rw [← hW1]
  clear hW1
  go_loopg [7] kl (fun g0 v7 wr => ∃ i : Nat, i ≤ kl ∧ kl - i ≤ g0 ∧ v7 = .int .i64 i ∧ Hid (eqL true f g (ks.drop i) (ks'.drop i) = R) ∧ Hid (RowKit.Below W1.heap.size W1 wr))
  case atStart => exact ⟨0, Nat.zero_le _, by omega, by simp, HR, Below.refl _ _⟩
  case round =>
    clear HR
    obtain ⟨i, hi, hg, rfl, HR, HV⟩ := hrel
    have hwW : w.heap.size ≤ W1.heap.size := HB.out.size
    have HBw := Lib.hid (HB.out.trans (HV.out.mono HB.out.size))
    have x9 := (BX.out.bel HV.out).c9
    have y9 := (BY.out.bel HV.out).c9
    by_cases hlt : i < kl
    · have hz : (i : Int) < (kl : Int) := by omega
      have e2 : IntKind.i64.wrap ((i : Int) + 1) = ((i + 1 : Nat) : Int) := by rw [IntWalk.i64_in _ (by omega)]; rfl
      obtain ⟨rfl, -, hbx⟩ := HPX.out (by omega)
      obtain ⟨rfl, -, hbq⟩ := HPY.out (by omega)
      obtain ⟨⟨uo, ua, us, un, ud, uf, um, ur, uy, uq, uk, uc⟩, hc, hn⟩ := kids_get ks ox i (by omega) (KidsA.keep HBw.out.size (fun j _ hj => HBw.out.block j hj) (fun _ h _ => h) bx (HPX.out (by omega)).2.1 hbx ox ks HX.out)
      obtain ⟨⟨vo, va, vs, vn, vd, vf, vm, vr, vy, vq, vk, vc⟩, hc', hn'⟩ := kids_get ks' oq i (by omega) (KidsA.keep HBw.out.size (fun j _ hj => HBw.out.block j hj) (fun _ h _ => h) bq (HPY.out (by omega)).2.1 hbq oq ks' HY.out)
      have hs := HBw.out.size
      have z0 := cell_bw (by show bx < _; omega) (hc 0 _ rfl)
      have q0 := cell_bw (by show bq < _; omega) (hc' 0 _ rfl)
      have z1 := cell_bw (by show bx < _; omega) (hc 1 _ rfl)
      have q1 := cell_bw (by show bq < _; omega) (hc' 1 _ rfl)
      have z2 := cell_bw (by show bx < _; omega) (hc 2 _ rfl)
      have q2 := cell_bw (by show bq < _; omega) (hc' 2 _ rfl)
      have z3 := cell_bw (by show bx < _; omega) (hc 3 _ rfl)
      have q3 := cell_bw (by show bq < _; omega) (hc' 3 _ rfl)
      have z4 := cell_bw (by show bx < _; omega) (hc 4 _ rfl)
      have q4 := cell_bw (by show bq < _; omega) (hc' 4 _ rfl)
      have z5 := cell_bw (by show bx < _; omega) (hc 5 _ rfl)
      have q5 := cell_bw (by show bq < _; omega) (hc' 5 _ rfl)
      have z6 := cell_bw (by show bx < _; omega) (hc 6 _ rfl)
      have q6 := cell_bw (by show bq < _; omega) (hc' 6 _ rfl)
      have z7 := cell_bw (by show bx < _; omega) (hc 7 _ rfl)
      have q7 := cell_bw (by show bq < _; omega) (hc' 7 _ rfl)
      have z8 := cell_bw (by show bx < _; omega) (hc 8 _ rfl)
      have q8 := cell_bw (by show bq < _; omega) (hc' 8 _ rfl)
      have z9 := cell_bw (by show bx < _; omega) (hc 9 _ rfl)
      have q9 := cell_bw (by show bq < _; omega) (hc' 9 _ rfl)
      rw [Nat.add_zero] at z0 q0
      have X9 := cell_bw (World.block_lt_of_cell? _ _ x9) x9
      have Y9 := cell_bw (World.block_lt_of_cell? _ _ y9) y9
      have KQ := Lib.hid (fun (p : Bw wr) => IH.out i (by omega) (by omega) ⟨uo, ua, us, un, ud, uf, um, ur, uy, uq, uk, uc⟩ ⟨vo, va, vs, vn, vd, vf, vm, vr, vy, vq, vk, vc⟩ p.w' (NodeA.keep p.h.size (fun j _ hj => p.h.block j hj) (fun _ h _ => h) _ _ hn) (NodeA.keep p.h.size (fun j _ hj => p.h.block j hj) (fun _ h _ => h) _ _ hn'))
      unfold nv at KQ
      have HR2 := HR.out
      rw [eqL_split ks ks' i (by omega) (by omega)] at HR2
      have hK1 := hk
      clear hc hc' hn hn'
      cases hq : eqT true f g (ks[i]'(by omega)) (ks'[i]'(by omega)) with
      | false =>
        rw [hq] at HR2
        simp only [hq] at KQ
        have HE : Hid (R = false) := by show _ = _; rw [← HR2]; rfl
        clear HR2
        go_wp2_with fail
        refine wp_region_bw mixed (by kernel_rfl) ?_
        repeat (go_big_quiet_step ((with_reducible refine Calls.bw_of (KQ.out _))))
        refine wpQuiet_nil ?_
        intro W HW
        replace HW := bw_out HW
        clear z0 z1 z2 z3 z4 z5 z6 z7 z8 z9 q0 q1 q2 q3 q4 q5 q6 q7 q8 q9 X9 Y9 KQ
        have HF := Lib.hid (HBw.out.trans (HW.mono HBw.out.size))
        clear HW
        go_wp2_with fail
        go_ret
        exact ⟨ret_bool HE.out.symm, HF.out⟩
      | true =>
        rw [hq, Bool.true_and] at HR2
        simp only [hq] at KQ
        replace HR := Lib.hid HR2
        clear HR2
        go_wp2_with fail
        refine wp_region_bw mixed (by kernel_rfl) ?_
        repeat (go_big_quiet_step ((with_reducible refine Calls.bw_of (KQ.out _))))
        refine wpQuiet_nil ?_
        intro W HW
        replace HW := bw_out HW
        clear z0 z1 z2 z3 z4 z5 z6 z7 z8 z9 q0 q1 q2 q3 q4 q5 q6 q7 q8 q9 X9 Y9 KQ
        have HF := Lib.hid (HV.out.trans (HW.mono HV.out.size))
        clear HW
        go_wp2_with fail
        go_roundg (kl - (i + 1))
        case measure => omega
        case rel => exact ⟨i + 1, by omega, Nat.le_refl _, by first | rfl | simp, HR, HF⟩
    · have hz : ¬ (i : Int) < (kl : Int) := by omega
      have hie : i = kl := by omega
      subst hie
      have HE : Hid (R = true) := by
        show _ = _
        rw [← HR.out, List.drop_eq_nil_of_le (by omega), List.drop_eq_nil_of_le (by omega)]
        simp [eqL]
      go_wp2_with fail
      go_ret
      exact ⟨ret_bool HE.out.symm, HBw.out⟩
theorem same_any (t : Bool) (f g : Nat → Int) (N : Nat) : ∀ (a b : Tree), a.siz ≤ N → a.siz ≤ 1000000 → ∀ (A A' : Nat → Prop) (x y : NV) (w : World), NodeA w A f a x → NodeA w A' g b y → Calls Tryz.prog 17 #[nv x, nv y, .bool t] w fun e w' => e = .returned (.bool (eqT t f g a b)) ∧ RowKit.Below w.heap.size w w' := by
  induction N with
  | zero => intro a b h; cases a; simp [Tree.siz] at h
  | succ N ih =>
    intro a b hN hm A A' x y w hx hy
    obtain ⟨op, pl, nm, n0, d0, u, ks⟩ := a
    obtain ⟨op', pl', nm', n0', d0', u', ks'⟩ := b
    simp only [Tree.siz] at hN hm
    have hkl := kids_few ks
    have ihk : ∀ (i : Nat) (h : i < ks.length) (h' : i < ks'.length) (x y : NV) (v : World), NodeA v A f ks[i] x → NodeA v A' g ks'[i] y → Calls Tryz.prog 17 #[nv x, nv y, .bool t] v fun e w' => e = .returned (.bool (eqT t f g ks[i] ks'[i])) ∧ RowKit.Below v.heap.size v w' := fun i h h' x y v hx hy =>
      ih ks[i] ks'[i] (by have h1 := sizL_take ks i h; have h2 := sizL_le ks (i + 1); omega) (by have h1 := sizL_take ks i h; have h2 := sizL_le ks (i + 1); omega) A A' x y v hx hy
    clear ih
    obtain ⟨xq, xc, rfl, bx, ox, hx1, hx2⟩ := node_fields hx
    obtain ⟨yq, yc, rfl, bq, oq, hy1, hy2⟩ := node_fields hy
    clear hx hy
    have hE : eqT t f g (.mk op pl nm n0 d0 u ks) (.mk op' pl' nm' n0' d0' u' ks') = (op == op' && (!t || f pl == g pl') && nm == nm' && n0 == n0' && d0 == d0' && uF u == uF u' && uM u == uM u' && uA u == uA u' && uD u == uD u' && eqL t f g ks ks') := by simp only [eqT]
    cases hl : (op == op' && (!t || f pl == g pl') && nm == nm' && n0 == n0' && d0 == d0' && uF u == uF u' && uM u == uM u' && uA u == uA u' && uD u == uD u' && decide (ks.length = ks'.length)) with
    | false =>
      have hf : eqT t f g (.mk op pl nm n0 d0 u ks) (.mk op' pl' nm' n0' d0' u' ks') = false := by
        rw [hE]
        cases hq : eqL t f g ks ks' with
        | false => rw [Bool.and_false]
        | true =>
          rw [decide_eq_true (eqL_len ks ks' hq)] at hl
          exact hl
      rw [hf]
      exact same_no t f g op pl nm n0 d0 u ks op' pl' nm' n0' d0' u' ks' xq yq xc yc w hl
    | true =>
      have hf : eqT t f g (.mk op pl nm n0 d0 u ks) (.mk op' pl' nm' n0' d0' u' ks') = eqL t f g ks ks' := by
        rw [hE]
        simp only [Bool.and_eq_true] at hl
        obtain ⟨⟨⟨⟨⟨⟨⟨⟨⟨l1, l2⟩, l3⟩, l4⟩, l5⟩, l6⟩, l7⟩, l8⟩, l9⟩, -⟩ := hl
        rw [l1, l2, l3, l4, l5, l6, l7, l8, l9]
        rfl
      rw [hf]
      simp only [Bool.and_eq_true, beq_iff_eq, decide_eq_true_eq, Bool.or_eq_true, Bool.not_eq_true'] at hl
      obtain ⟨⟨⟨⟨⟨⟨⟨⟨⟨l1, l2⟩, l3⟩, l4⟩, l5⟩, l6⟩, l7⟩, l8⟩, l9⟩, l10⟩ := hl
      subst l1 l3 l4 l5
      unfold nv
      simp only
      rw [← l6, ← l7, ← l8, ← l9, ← l10]
      cases t with
      | false => exact same_false f g op (f pl) (g pl') nm n0 d0 (uF u) (uM u) (uA u) (uD u) ks ks' ks.length rfl l10.symm (by omega) xq yq xc yc bx ox bq oq A A' w hx1 hx2 (by rw [l10]; exact hy1) hy2 ihk
      | true =>
        have l2' : f pl = g pl' := by simpa using l2
        rw [← l2']
        exact same_true f g op (f pl) nm n0 d0 (uF u) (uM u) (uA u) (uD u) ks ks' ks.length rfl l10.symm (by omega) xq yq xc yc bx ox bq oq A A' w hx1 hx2 (by rw [l10]; exact hy1) hy2 ihk
end Go.Proofs.YtedbpjcglnkjmaaGreatDoor
namespace Go.Proofs.YtedbpjcglnkjmaaGreatDoor
open Go.RowKit Lx Pa

set_option maxRecDepth 100000 in
set_option maxHeartbeats 12000000 in
theorem sameDecl_any (t : Bool) (nm nm' : List UInt8) (a5 b5 : Bool) (a6 a7 a8 b6 b7 b8 lo hi fa lo' hi' fa' : Int) (w : World) :
    Calls Tryz.prog 21 #[.agg #[.string (bs nm), .bool a5, .int .i64 a6, .int .i64 a7, .int .i64 a8, .int .i64 lo, .int .i64 hi, .int .i64 fa], .agg #[.string (bs nm'), .bool b5, .int .i64 b6, .int .i64 b7, .int .i64 b8, .int .i64 lo', .int .i64 hi', .int .i64 fa'], .bool t] w fun e w' => e = .returned (.bool (nm == nm' && (a5 == b5 && a6 == b6 && a7 == b7 && a8 == b8) && lo == lo' && hi == hi' && (!t || fa == fa'))) ∧ RowKit.Below w.heap.size w w' := by
  have HR := Lib.hid (Below.refl w.heap.size w)
  generalize hq : (nm == nm' && (a5 == b5 && a6 == b6 && a7 == b7 && a8 == b8) && lo == lo' && hi == hi' && (!t || fa == fa')) = R
  by_cases hx : nm = nm'
  · subst hx
    by_cases hx : a5 = b5
    · subst hx
      by_cases hx : a6 = b6
      · subst hx
        by_cases hx : a7 = b7
        · subst hx
          by_cases hx : a8 = b8
          · subst hx
            by_cases hx : lo = lo'
            · subst hx
              by_cases hx : hi = hi'
              · subst hx
                cases t with
                | false =>
                  have HE : Hid (true = R) := by show _ = _; rw [← hq]; simp
                  clear hq
                  go_enter Tryz.func21, Tryz.ntmps21
                  go_wp2_with fail
                  all_goals
                    go_ret
                    exact ⟨ret_bool HE.out, (by repeat' (first | (with_reducible exact HR.out) | (with_reducible refine Below.setCell ?_ ?_ _) | (with_reducible refine Below.alloc ?_ ?_ _) | (with_reducible refine Below.drew ?_) | (with_reducible refine below_drewN ?_ _) | (with_reducible exact Below.refl _ _) | omega | (simp; done) | (simp; omega)))⟩
                | true =>
                  by_cases hx : fa = fa'
                  · subst hx
                    have HE : Hid (true = R) := by show _ = _; rw [← hq]; simp
                    clear hq
                    go_enter Tryz.func21, Tryz.ntmps21
                    go_wp2_with fail
                    all_goals
                      go_ret
                      exact ⟨ret_bool HE.out, (by repeat' (first | (with_reducible exact HR.out) | (with_reducible refine Below.setCell ?_ ?_ _) | (with_reducible refine Below.alloc ?_ ?_ _) | (with_reducible refine Below.drew ?_) | (with_reducible refine below_drewN ?_ _) | (with_reducible exact Below.refl _ _) | omega | (simp; done) | (simp; omega)))⟩
                  · have e1 : (fa == fa') = false := by simpa using hx
                    have HE : Hid (false = R) := by show _ = _; rw [← hq]; simp [hx]
                    clear hq hx
                    go_enter Tryz.func21, Tryz.ntmps21
                    go_wp2_with fail
                    all_goals
                      go_ret
                      exact ⟨ret_bool HE.out, (by repeat' (first | (with_reducible exact HR.out) | (with_reducible refine Below.setCell ?_ ?_ _) | (with_reducible refine Below.alloc ?_ ?_ _) | (with_reducible refine Below.drew ?_) | (with_reducible refine below_drewN ?_ _) | (with_reducible exact Below.refl _ _) | omega | (simp; done) | (simp; omega)))⟩
              · have e1 : (hi == hi') = false := by simpa using hx
                have HE : Hid (false = R) := by show _ = _; rw [← hq]; simp [hx]
                clear hq hx
                go_enter Tryz.func21, Tryz.ntmps21
                go_wp2_with fail
                all_goals
                  go_ret
                  exact ⟨ret_bool HE.out, (by repeat' (first | (with_reducible exact HR.out) | (with_reducible refine Below.setCell ?_ ?_ _) | (with_reducible refine Below.alloc ?_ ?_ _) | (with_reducible refine Below.drew ?_) | (with_reducible refine below_drewN ?_ _) | (with_reducible exact Below.refl _ _) | omega | (simp; done) | (simp; omega)))⟩
            · have e1 : (lo == lo') = false := by simpa using hx
              have HE : Hid (false = R) := by show _ = _; rw [← hq]; simp [hx]
              clear hq hx
              go_enter Tryz.func21, Tryz.ntmps21
              go_wp2_with fail
              all_goals
                go_ret
                exact ⟨ret_bool HE.out, (by repeat' (first | (with_reducible exact HR.out) | (with_reducible refine Below.setCell ?_ ?_ _) | (with_reducible refine Below.alloc ?_ ?_ _) | (with_reducible refine Below.drew ?_) | (with_reducible refine below_drewN ?_ _) | (with_reducible exact Below.refl _ _) | omega | (simp; done) | (simp; omega)))⟩
          · have e1 : (a8 == b8) = false := by simpa using hx
            have HE : Hid (false = R) := by show _ = _; rw [← hq]; simp [hx]
            clear hq hx
            go_enter Tryz.func21, Tryz.ntmps21
            go_wp2_with fail
            all_goals
              go_ret
              exact ⟨ret_bool HE.out, (by repeat' (first | (with_reducible exact HR.out) | (with_reducible refine Below.setCell ?_ ?_ _) | (with_reducible refine Below.alloc ?_ ?_ _) | (with_reducible refine Below.drew ?_) | (with_reducible refine below_drewN ?_ _) | (with_reducible exact Below.refl _ _) | omega | (simp; done) | (simp; omega)))⟩
        · have e1 : (a7 == b7) = false := by simpa using hx
          have HE : Hid (false = R) := by show _ = _; rw [← hq]; simp [hx]
          clear hq hx
          go_enter Tryz.func21, Tryz.ntmps21
          go_wp2_with fail
          all_goals
            go_ret
            exact ⟨ret_bool HE.out, (by repeat' (first | (with_reducible exact HR.out) | (with_reducible refine Below.setCell ?_ ?_ _) | (with_reducible refine Below.alloc ?_ ?_ _) | (with_reducible refine Below.drew ?_) | (with_reducible refine below_drewN ?_ _) | (with_reducible exact Below.refl _ _) | omega | (simp; done) | (simp; omega)))⟩
      · have e1 : (a6 == b6) = false := by simpa using hx
        have HE : Hid (false = R) := by show _ = _; rw [← hq]; simp [hx]
        clear hq hx
        go_enter Tryz.func21, Tryz.ntmps21
        go_wp2_with fail
        all_goals
          go_ret
          exact ⟨ret_bool HE.out, (by repeat' (first | (with_reducible exact HR.out) | (with_reducible refine Below.setCell ?_ ?_ _) | (with_reducible refine Below.alloc ?_ ?_ _) | (with_reducible refine Below.drew ?_) | (with_reducible refine below_drewN ?_ _) | (with_reducible exact Below.refl _ _) | omega | (simp; done) | (simp; omega)))⟩
    · have e1 : (a5 == b5) = false := by simpa using hx
      have HE : Hid (false = R) := by show _ = _; rw [← hq]; simp [hx]
      clear hq hx
      go_enter Tryz.func21, Tryz.ntmps21
      go_wp2_with fail
      all_goals
        go_ret
        exact ⟨ret_bool HE.out, (by repeat' (first | (with_reducible exact HR.out) | (with_reducible refine Below.setCell ?_ ?_ _) | (with_reducible refine Below.alloc ?_ ?_ _) | (with_reducible refine Below.drew ?_) | (with_reducible refine below_drewN ?_ _) | (with_reducible exact Below.refl _ _) | omega | (simp; done) | (simp; omega)))⟩
  · have e1 := bsq_ne hx
    have HE : Hid (false = R) := by show _ = _; rw [← hq]; simp [hx]
    clear hq hx
    go_enter Tryz.func21, Tryz.ntmps21
    go_wp2_with fail
    all_goals
      go_ret
      exact ⟨ret_bool HE.out, (by repeat' (first | (with_reducible exact HR.out) | (with_reducible refine Below.setCell ?_ ?_ _) | (with_reducible refine Below.alloc ?_ ?_ _) | (with_reducible refine Below.drew ?_) | (with_reducible refine below_drewN ?_ _) | (with_reducible exact Below.refl _ _) | omega | (simp; done) | (simp; omega)))⟩
end Go.Proofs.YtedbpjcglnkjmaaGreatDoor
