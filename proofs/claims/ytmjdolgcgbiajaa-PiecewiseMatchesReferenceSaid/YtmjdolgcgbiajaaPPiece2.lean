/-
  Contracts of piece and times.
-/
import Derived.Test.YtmjdolgcgbiajaaPPiece
namespace Go.Proofs.Ytmjdolgcgbiajaa
open Go.RowKit Pw

/-- A section in raw numbers: where it begins, and its line. -/
structure SP where
  f : Int
  b : Int
  r : Int
  d : Int
deriving DecidableEq, Inhabited
def SP.V (s : SP) : Value := .agg #[.int .i64 s.f, .int .i64 s.b, .int .i64 s.r, .int .i64 s.d]
/-- The bounds of sections. -/
def SP.Ok (s : SP) : Prop := 0 ≤ s.f ∧ s.f ≤ 100000 ∧ s.b.natAbs ≤ 50000000000000000 ∧ s.r.natAbs ≤ 500000000000 ∧ 1 ≤ s.d ∧ s.d ≤ 1000000000
def SP.A (s : SP) : AP := ⟨s.f, fr (s.b + s.r * s.f) s.d, fr s.r s.d⟩
theorem SP.Ok.mul {s : SP} (h : s.Ok) {x : Int} (h0 : 0 ≤ x) (h1 : x ≤ 100000) : (s.r * x).natAbs ≤ 50000000000000000 := mul_bd (A := 500000000000) (B := 100000) h.2.2.2.1 (by omega)

set_option maxRecDepth 100000 in
set_option maxHeartbeats 1000000 in
theorem piece_raw (f b r d p1 p2 p3 s1 s2 s3 a1 a2 a3 b1 b2 b3 : Int) (w : World)
    (K1 : Hid (∀ w, Calls Try.prog 36 #[.agg #[.int .i64 b, .int .i64 r, .int .i64 d], .int .i64 f] w fun e w' => e = .returned (.agg #[.int .i64 a1, .int .i64 a2, .int .i64 a3]) ∧ RowKit.Below w.heap.size w w'))
    (K2 : Hid (∀ w, Calls Try.prog 37 #[.agg #[.int .i64 a1, .int .i64 a2, .int .i64 a3]] w fun e w' => e = .returned (.tuple #[.agg #[.int .i64 p1, .int .i64 p2], .int .i64 p3]) ∧ RowKit.Below w.heap.size w w'))
    (K3 : Hid (∀ w, Calls Try.prog 70 #[.agg #[.int .i64 b, .int .i64 r, .int .i64 d]] w fun e w' => e = .returned (.agg #[.int .i64 b1, .int .i64 b2, .int .i64 b3]) ∧ RowKit.Below w.heap.size w w'))
    (K4 : Hid (∀ w, Calls Try.prog 37 #[.agg #[.int .i64 b1, .int .i64 b2, .int .i64 b3]] w fun e w' => e = .returned (.tuple #[.agg #[.int .i64 s1, .int .i64 s2], .int .i64 s3]) ∧ RowKit.Below w.heap.size w w')) :
    Calls Try.prog 50 #[.agg #[.int .i64 f, .int .i64 b, .int .i64 r, .int .i64 d]] w fun e w' => e = .returned (.agg #[.int .i64 f, .int .i64 p1, .int .i64 p2, .int .i64 s1, .int .i64 s2]) ∧ RowKit.Below w.heap.size w w' := by
  go_enter Try.func50, Try.ntmps50
  go_wp2_with fail
  obtain ⟨W0, hW0⟩ : ∃ W0, W0 = (w.alloc (.cells #[.int .i64 f, .int .i64 b, .int .i64 r, .int .i64 d] 71)).alloc (.cells #[.int .i64 0, .int .i64 0, .int .i64 0, .int .i64 0, .int .i64 0] 51) := ⟨_, rfl⟩
  rw [← hW0]
  have A : At4 W0 w.heap.size (.int .i64 f) (.int .i64 b) (.int .i64 r) (.int .i64 d) := by rw [hW0]; exact (At4.new w _ _ _ _ _).alloc (by simp) _
  have B : At5 W0 (w.heap.size + 1) (.int .i64 0) (.int .i64 0) (.int .i64 0) (.int .i64 0) (.int .i64 0) := by
    rw [hW0]; have := At5.new (w.alloc (.cells #[.int .i64 f, .int .i64 b, .int .i64 r, .int .i64 d] 71)) (.int .i64 0) (.int .i64 0) (.int .i64 0) (.int .i64 0) (.int .i64 0) 51; rwa [World.size_alloc] at this
  have hz0 : w.heap.size + 1 < W0.heap.size := by rw [hW0]; simp
  have hB : RowKit.Below w.heap.size w W0 := by rw [hW0]; exact (by repeat' (first | (with_reducible refine Below.setCell ?_ ?_ _) | (with_reducible refine Below.alloc ?_ ?_ _) | (with_reducible refine Below.drew ?_) | (with_reducible refine below_drewN ?_ _) | (with_reducible exact Below.refl _ _) | omega | (simp; done) | (simp; omega)))
  have HB := Lib.hid hB
  clear hW0 hB
  refine (K1.out _).mono ?_
  rintro _ w1 ⟨rfl, hb⟩
  have A1 := A.below hb (by omega)
  have B1 := B.below hb hz0
  have hz1 : w.heap.size + 1 < w1.heap.size := by have := hb.size; omega
  have HB1 := Lib.hid (HB.out.trans (hb.mono (by have := HB.out.size; omega)))
  clear A B hb hz0
  go_wp2_with fail
  refine (K2.out _).mono ?_
  rintro _ w2 ⟨rfl, hb⟩
  have A2 := A1.below hb (by omega)
  have B2 := B1.below hb hz1
  have hz2 : w.heap.size + 1 < w2.heap.size := by have := hb.size; omega
  have HB2 := Lib.hid (HB1.out.trans (hb.mono HB1.out.size))
  have HA2 := Lib.hid A2
  have hza : w.heap.size < w2.heap.size := by omega
  obtain ⟨c0, c1, c2, c3, _, _, _, _⟩ := A2
  clear A1 B1 hb hz1
  go_wp2_with fail
  refine (K3.out _).mono ?_
  rintro _ w3 ⟨rfl, hb⟩
  have hb' : RowKit.Below w2.heap.size w2 w3 := by refine RowKit.Below.trans ?_ (hb.mono (by simp)); exact (Below.refl _ _).alloc (Nat.le_refl _) _
  have N3 := (At2.new w2 (.int .i64 p1) (.int .i64 p2) 24).below hb (by simp)
  have hm3 : w2.heap.size < w3.heap.size := by have := hb.size; simp at this; omega
  have B3 := B2.below hb' hz2
  have A3 := HA2.out.below hb' (by omega)
  have HB3 := Lib.hid (HB2.out.trans (hb'.mono HB2.out.size))
  have hzb : w.heap.size < w3.heap.size := by omega
  have hzc : w.heap.size + 1 < w3.heap.size := by omega
  clear c0 c1 c2 c3 hb hb' B2 HA2
  go_wp2_with fail
  refine (K4.out _).mono ?_
  rintro _ w4 ⟨rfl, hb⟩
  have hz4 : w.heap.size + 1 < w4.heap.size := by have := hb.size; omega
  have hzd : w.heap.size < w4.heap.size := by omega
  have hm4 : w2.heap.size < w4.heap.size := by have := hb.size; omega
  have HB4 := Lib.hid (HB3.out.trans (hb.mono HB3.out.size))
  obtain ⟨n0, n1, _, _⟩ := N3.below hb hm3
  obtain ⟨e0, e1, e2, e3, e4, g0, g1, g2, g3, g4⟩ := B3.below hb (by omega)
  obtain ⟨c0, c1, c2, c3, _, _, _, _⟩ := A3.below hb (by omega)
  clear hb N3 B3 A3
  go_wp2_with fail
  exact bodyPost_ret (v := .agg #[.int .i64 f, .int .i64 p1, .int .i64 p2, .int .i64 s1, .int .i64 s2]) (by simp [results, Try.results50, go_sem, hz4, e0, e1, e2, e3, e4]) rfl ⟨rfl, (by repeat' (first | (with_reducible exact HB4.out) | (with_reducible refine Below.setCell ?_ ?_ _) | (with_reducible refine Below.alloc ?_ ?_ _) | (with_reducible refine Below.drew ?_) | (with_reducible refine below_drewN ?_ _) | (with_reducible exact Below.refl _ _) | omega | (simp; done) | (simp; omega)))⟩

theorem piece_any (s : SP) (w : World) (h : s.Ok) : Calls Try.prog 50 #[s.V] w fun e w' => e = .returned (rpO s.A).V ∧ RowKit.Below w.heap.size w w' := by
  have hm := h.mul h.1 h.2.1
  obtain ⟨h1, h2, h3, h4, h5, h6⟩ := h
  exact piece_raw s.f s.b s.r s.d _ _ _ _ _ _ _ _ _ _ _ _ w (fun w => at_any s.b s.r s.d s.f w h5 h6 (by omega) (by omega) (by omega) (by omega)) (fun w => number_any (s.b + s.r * s.f) s.d w h5 h6 (by omega) (by omega))
    (fun w => slope_any s.b s.r s.d w h5 h6 (by omega) (by omega)) (fun w => number_any s.r s.d w h5 h6 (by omega) (by omega))

set_option maxRecDepth 100000 in
set_option maxHeartbeats 1000000 in
theorem times_raw (f vn vd sn sd rn rd p1 p2 p3 s1 s2 s3 : Int) (w : World)
    (K1 : Hid (∀ w, Calls Try.prog 69 #[.agg #[.int .i64 vn, .int .i64 vd], .agg #[.int .i64 rn, .int .i64 rd]] w fun e w' => e = .returned (.tuple #[.agg #[.int .i64 p1, .int .i64 p2], .int .i64 p3]) ∧ RowKit.Below w.heap.size w w'))
    (K2 : Hid (∀ w, Calls Try.prog 69 #[.agg #[.int .i64 sn, .int .i64 sd], .agg #[.int .i64 rn, .int .i64 rd]] w fun e w' => e = .returned (.tuple #[.agg #[.int .i64 s1, .int .i64 s2], .int .i64 s3]) ∧ RowKit.Below w.heap.size w w')) :
    Calls Try.prog 49 #[.agg #[.int .i64 f, .int .i64 vn, .int .i64 vd, .int .i64 sn, .int .i64 sd], .agg #[.int .i64 rn, .int .i64 rd]] w fun e w' => e = .returned (.agg #[.int .i64 f, .int .i64 p1, .int .i64 p2, .int .i64 s1, .int .i64 s2]) ∧ RowKit.Below w.heap.size w w' := by
  go_enter Try.func49, Try.ntmps49
  go_wp2_with fail
  obtain ⟨W0, hW0⟩ : ∃ W0, W0 = ((w.alloc (.cells #[.int .i64 f, .int .i64 vn, .int .i64 vd, .int .i64 sn, .int .i64 sd] 51)).alloc (.cells #[.int .i64 rn, .int .i64 rd] 24)).alloc (.cells #[.int .i64 0, .int .i64 0, .int .i64 0, .int .i64 0, .int .i64 0] 51) := ⟨_, rfl⟩
  rw [← hW0]
  have A : At5 W0 w.heap.size (.int .i64 f) (.int .i64 vn) (.int .i64 vd) (.int .i64 sn) (.int .i64 sd) := by rw [hW0]; exact ((At5.new w _ _ _ _ _ _).alloc (by simp) _).alloc (by simp; omega) _
  have R : At2 W0 (w.heap.size + 1) (.int .i64 rn) (.int .i64 rd) := by
    rw [hW0]; have := (At2.new (w.alloc (.cells #[.int .i64 f, .int .i64 vn, .int .i64 vd, .int .i64 sn, .int .i64 sd] 51)) (.int .i64 rn) (.int .i64 rd) 24).alloc (by simp) (.cells #[.int .i64 0, .int .i64 0, .int .i64 0, .int .i64 0, .int .i64 0] 51); rwa [World.size_alloc] at this
  have B : At5 W0 (w.heap.size + 1 + 1) (.int .i64 0) (.int .i64 0) (.int .i64 0) (.int .i64 0) (.int .i64 0) := by
    rw [hW0]; have := At5.new ((w.alloc (.cells #[.int .i64 f, .int .i64 vn, .int .i64 vd, .int .i64 sn, .int .i64 sd] 51)).alloc (.cells #[.int .i64 rn, .int .i64 rd] 24)) (.int .i64 0) (.int .i64 0) (.int .i64 0) (.int .i64 0) (.int .i64 0) 51; rwa [World.size_alloc, World.size_alloc] at this
  have hz0 : w.heap.size + 1 + 1 < W0.heap.size := by rw [hW0]; simp
  have hB : RowKit.Below w.heap.size w W0 := by rw [hW0]; exact (by repeat' (first | (with_reducible refine Below.setCell ?_ ?_ _) | (with_reducible refine Below.alloc ?_ ?_ _) | (with_reducible refine Below.drew ?_) | (with_reducible refine below_drewN ?_ _) | (with_reducible exact Below.refl _ _) | omega | (simp; done) | (simp; omega)))
  have HB := Lib.hid hB
  clear hW0 hB
  refine (K1.out _).mono ?_
  rintro _ w1 ⟨rfl, hb⟩
  have A1 := A.below hb (by omega)
  have R1 := R.below hb (by omega)
  have B1 := B.below hb hz0
  have hz1 : w.heap.size + 1 + 1 < w1.heap.size := by have := hb.size; omega
  have HB1 := Lib.hid (HB.out.trans (hb.mono (by have := HB.out.size; omega)))
  have HA1 := Lib.hid A1
  have HR1 := Lib.hid R1
  obtain ⟨c0, c1, c2, c3, c4, _, _, _, _, _⟩ := A1
  obtain ⟨r0, r1, _, _⟩ := R1
  have hza : w.heap.size < w1.heap.size := by omega
  have hzb : w.heap.size + 1 < w1.heap.size := by omega
  clear A B R hb hz0
  go_wp2_with fail
  refine (K2.out _).mono ?_
  rintro _ w3 ⟨rfl, hb⟩
  have hb' : RowKit.Below w1.heap.size w1 w3 := by refine RowKit.Below.trans ?_ (hb.mono (by simp)); exact (Below.refl _ _).alloc (Nat.le_refl _) _
  have N3 := (At2.new w1 (.int .i64 p1) (.int .i64 p2) 24).below hb (by simp)
  have hm3 : w1.heap.size < w3.heap.size := by have := hb.size; simp at this; omega
  have B3 := B1.below hb' hz1
  have A3 := HA1.out.below hb' (by omega)
  have HB3 := Lib.hid (HB1.out.trans (hb'.mono HB1.out.size))
  have hz3 : w.heap.size + 1 + 1 < w3.heap.size := by omega
  have hzc : w.heap.size < w3.heap.size := by omega
  clear c0 c1 c2 c3 c4 r0 r1 hb hb' B1 HA1 HR1 hza hzb
  obtain ⟨n0, n1, _, _⟩ := N3
  obtain ⟨e0, e1, e2, e3, e4, g0, g1, g2, g3, g4⟩ := B3
  obtain ⟨c0, c1, c2, c3, c4, _, _, _, _, _⟩ := A3
  go_wp2_with fail
  exact bodyPost_ret (v := .agg #[.int .i64 f, .int .i64 p1, .int .i64 p2, .int .i64 s1, .int .i64 s2]) (by simp [results, Try.results49, go_sem, hz3, e0, e1, e2, e3, e4]) rfl ⟨rfl, (by repeat' (first | (with_reducible exact HB3.out) | (with_reducible refine Below.setCell ?_ ?_ _) | (with_reducible refine Below.alloc ?_ ?_ _) | (with_reducible refine Below.drew ?_) | (with_reducible refine below_drewN ?_ _) | (with_reducible exact Below.refl _ _) | omega | (simp; done) | (simp; omega)))⟩
theorem mul_fr (a b c d : Int) (w : World) (h : Q.Val a b) (h' : Q.Val c d) : Calls Try.prog 69 #[.agg #[.int .i64 a, .int .i64 b], .agg #[.int .i64 c, .int .i64 d]] w fun e w' =>
    e = .returned (.tuple #[.agg #[.int .i64 (mkN (fr a b * fr c d)), .int .i64 (mkD (fr a b * fr c d))], .int .i64 (mkE (fr a b * fr c d))]) ∧ RowKit.Below w.heap.size w w' := by
  have k := mul_any a b c d w (by have := h.1; omega) (by have := h.2.1; omega) (by have := h.2.2.1; omega) (by have := h.2.2.2.1; omega) (by have := h'.1; omega) (by have := h'.2.1; omega) (by have := h'.2.2.1; omega) (by have := h'.2.2.2.1; omega)
  have e : op2 a b c d (a * c) (b * d) = (mkN (fr a b * fr c d), mkD (fr a b * fr c d), mkE (fr a b * fr c d)) := by
    have hb : 0 < b := by have := h.2.2.1; omega
    have hd : 0 < d := by have := h'.2.2.1; omega
    unfold op2
    rw [if_pos ⟨(vld_iff _ _).2 h, (vld_iff _ _).2 h'⟩, mk_fr (Int.mul_pos hb hd), fr_mul hb hd]
  rw [e] at k
  exact k
theorem ptimes_any (p : RP) (rn rd : Int) (w : World) (h : wl p = true) (hr : Q.Val rn rd) : Calls Try.prog 49 #[p.V, .agg #[.int .i64 rn, .int .i64 rd]] w fun e w' => e = .returned (rpO (mulH (fr rn rd) (toAP p))).V ∧ RowKit.Below w.heap.size w w' := by
  obtain ⟨h1, _, h2, _⟩ := wl_val h
  exact times_raw p.f p.vn p.vd p.sn p.sd rn rd _ _ _ _ _ _ w (fun w => mul_fr _ _ _ _ w h1 hr) (fun w => mul_fr _ _ _ _ w h2 hr)
end Go.Proofs.Ytmjdolgcgbiajaa
