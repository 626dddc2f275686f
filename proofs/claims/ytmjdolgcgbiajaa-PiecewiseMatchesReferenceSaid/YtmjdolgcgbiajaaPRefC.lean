/-
  Contracts of the reference implementation of layer 5: Line, Sum, Compare, continues.
-/
import Derived.Test.YtmjdolgcgbiajaaPRefB
import Derived.Test.YtmjdolgcgbiajaaPPiece
namespace Go.Proofs.Ytmjdolgcgbiajaa
open Go.RowKit Pw

abbrev w64 (x : Int) : Int := IntKind.i64.wrap x
theorem w64_in (x : Int) : -9223372036854775808 ≤ w64 x ∧ w64 x ≤ 9223372036854775807 := by
  unfold w64
  rw [IntWalk.i64_left]
  unfold wrap64
  omega
theorem w64_id {x : Int} (h : -9223372036854775808 ≤ x ∧ x ≤ 9223372036854775807) : w64 x = x := IntWalk.i64_in _ (by omega)
/-- A number as a value. -/
def RV (x : Rat) : Value := .agg #[.int .i64 x.num, .int .i64 x.den]
/-- The fraction that Line reduces, as the machine computes it. -/
def liN (p : RP) (x : Int) : Int := w64 (w64 (p.vn * p.sd) + w64 (w64 (p.sn * w64 (x - p.f)) * p.vd))
def liD (p : RP) : Int := w64 (p.vd * p.sd)

set_option maxRecDepth 100000 in
set_option maxHeartbeats 1000000 in
theorem rline_raw (f vn vd sn sd x d a b c k n y z : Int) (w : World) (hd : IntKind.i64.wrap (vd * sd) = d) (ha : IntKind.i64.wrap (vn * sd) = a) (hb : IntKind.i64.wrap (x - f) = b) (hc : IntKind.i64.wrap (sn * b) = c) (hk : IntKind.i64.wrap (c * vd) = k) (hn : IntKind.i64.wrap (a + k) = n)
    (K : Hid (∀ w, Calls Try.prog 32 #[.int .i64 n, .int .i64 d] w fun e w' => e = .returned (.agg #[.int .i64 y, .int .i64 z]) ∧ RowKit.Below w.heap.size w w')) :
    Calls Try.prog 45 #[.agg #[.int .i64 f, .int .i64 vn, .int .i64 vd, .int .i64 sn, .int .i64 sd], .int .i64 x] w fun e w' => e = .returned (.agg #[.int .i64 y, .int .i64 z]) ∧ RowKit.Below w.heap.size w w' := by
  go_enter Try.func45, Try.ntmps45
  go_wp2_with fail
  refine (K.out _).mono ?_
  rintro _ w1 ⟨rfl, hb1⟩
  have HB := Lib.hid ((((Below.refl _ w).alloc (Nat.le_refl _) (.cells #[.int .i64 f, .int .i64 vn, .int .i64 vd, .int .i64 sn, .int .i64 sd] 51)).alloc (by simp) (.cells #[.int .i64 0, .int .i64 0] 24)).trans (hb1.mono (by simp; omega)))
  obtain ⟨c0, c1, f0, f1⟩ := (At2.new (w.alloc (.cells #[.int .i64 f, .int .i64 vn, .int .i64 vd, .int .i64 sn, .int .i64 sd] 51)) (.int .i64 0) (.int .i64 0) 24).below hb1 (by simp)
  simp only [World.size_alloc] at c0 c1 f0 f1
  clear hb1 K
  go_wp2
  exact bodyPost_ret (v := .agg #[.int .i64 y, .int .i64 z]) (by simp [results, Try.results45, go_sem, c0, c1]) rfl ⟨rfl, (by repeat' (first | (with_reducible exact HB.out) | (with_reducible refine Below.setCell ?_ ?_ _) | (with_reducible refine Below.alloc ?_ ?_ _) | (with_reducible refine Below.drew ?_) | (with_reducible refine below_drewN ?_ _) | (with_reducible exact Below.refl _ _) | omega | (simp; done) | (simp; omega)))⟩
theorem rline_w (p : RP) (x : Int) (w : World) (hd : 1 ≤ liD p) :
    Calls Try.prog 45 #[p.V, .int .i64 x] w fun e w' => e = .returned (.agg #[.int .i64 (rN (liN p x) (liD p)), .int .i64 (rD (liN p x) (liD p))]) ∧ RowKit.Below w.heap.size w w' :=
  rline_raw p.f p.vn p.vd p.sn p.sd x _ _ _ _ _ _ _ _ w rfl rfl rfl rfl rfl rfl (fun w => rreduce_any _ _ w (w64_in _).1 (w64_in _).2 hd (w64_in _).2)
/-- No intermediate result is out of range. -/
structure LiOk (p : RP) (x : Int) : Prop where
  vd : 1 ≤ p.vd
  sd : 1 ≤ p.sd
  d : p.vd * p.sd ≤ 9223372036854775807
  b : (x - p.f).natAbs ≤ 9223372036854775807
  a : (p.vn * p.sd).natAbs ≤ 4000000000000000000
  c : (p.sn * (x - p.f)).natAbs ≤ 9223372036854775807
  k : (p.sn * (x - p.f) * p.vd).natAbs ≤ 4000000000000000000
theorem LiOk.is {p : RP} {x : Int} (h : LiOk p x) : rN (liN p x) (liD p) = ((toAP p).at x).num ∧ rD (liN p x) (liD p) = ((toAP p).at x).den ∧ 1 ≤ liD p := by
  have h1 := h.vd
  have h2 := h.sd
  have h3 := h.d
  have h4 := h.b
  have h5 := h.a
  have h6 := h.c
  have h7 := h.k
  have hpos : 0 < p.vd * p.sd := Int.mul_pos (by omega) (by omega)
  have e1 : liD p = p.vd * p.sd := w64_id (by omega)
  have e2 : liN p x = p.vn * p.sd + p.sn * (x - p.f) * p.vd := by
    unfold liN
    rw [w64_id (x := x - p.f) (by omega), w64_id (x := p.sn * (x - p.f)) (by omega), w64_id (x := p.sn * (x - p.f) * p.vd) (by omega), w64_id (x := p.vn * p.sd) (by omega), w64_id (by omega)]
  have e3 : fr (p.vn * p.sd + p.sn * (x - p.f) * p.vd) (p.vd * p.sd) = (toAP p).at x := by
    have n1 := ne0 (d := p.vd) (by omega)
    have n2 := ne0 (d := p.sd) (by omega)
    unfold toAP AP.at fr
    simp only [Rat.intCast_add, Rat.intCast_mul, Rat.intCast_sub]
    grind
  rw [e1, e2, ← e3]
  obtain ⟨g1, g2⟩ := rND (n := p.vn * p.sd + p.sn * (x - p.f) * p.vd) (d := p.vd * p.sd) (by omega) (by omega)
  exact ⟨g1, g2, hpos⟩
theorem rline_any (p : RP) (x : Int) (w : World) (h : LiOk p x) : Calls Try.prog 45 #[p.V, .int .i64 x] w fun e w' => e = .returned (RV ((toAP p).at x)) ∧ RowKit.Below w.heap.size w w' := by
  obtain ⟨h1, h2, h3⟩ := h.is
  have := rline_w p x w h3
  rwa [h1, h2] at this
theorem liok_wl {p : RP} {x : Int} (h : wl p = true) (hb : (x - p.f).natAbs ≤ 100000) : LiOk p x := by
  obtain ⟨k1, k2, k3, k4, k5, k6⟩ := wl_val h
  obtain ⟨a1, a2, a3, a4, _⟩ := k1
  obtain ⟨b1, b2, b3, b4, _⟩ := k3
  have m1 := mul_bd (a := p.vn) (b := p.sd) (A := 1000000000) (B := 100) (by omega) (by omega)
  have m2 := mul_bd (a := p.sn) (b := x - p.f) (A := 100000) (B := 100000) (by omega) hb
  have m3 := mul_bd (a := p.sn * (x - p.f)) (b := p.vd) (A := 100000 * 100000) (B := 100) m2 (by omega)
  have m4 := mul_bd (a := p.vd) (b := p.sd) (A := 100) (B := 100) (by omega) (by omega)
  exact ⟨a3, b3, by omega, by omega, by omega, by omega, by omega⟩

set_option maxRecDepth 100000 in
set_option maxHeartbeats 1000000 in
theorem rsum_raw (an ad bn bd a b n d y z : Int) (w : World) (ha : IntKind.i64.wrap (an * bd) = a) (hb : IntKind.i64.wrap (bn * ad) = b) (hn : IntKind.i64.wrap (a + b) = n) (hd : IntKind.i64.wrap (ad * bd) = d)
    (K : Hid (∀ w, Calls Try.prog 32 #[.int .i64 n, .int .i64 d] w fun e w' => e = .returned (.agg #[.int .i64 y, .int .i64 z]) ∧ RowKit.Below w.heap.size w w')) :
    Calls Try.prog 28 #[.agg #[.int .i64 an, .int .i64 ad], .agg #[.int .i64 bn, .int .i64 bd]] w fun e w' => e = .returned (.agg #[.int .i64 y, .int .i64 z]) ∧ RowKit.Below w.heap.size w w' := by
  go_enter Try.func28, Try.ntmps28
  go_wp2_with fail
  refine (K.out _).mono ?_
  rintro _ w1 ⟨rfl, hb1⟩
  have HB := Lib.hid (((((Below.refl _ w).alloc (Nat.le_refl _) (.cells #[.int .i64 an, .int .i64 ad] 24)).alloc (by simp) (.cells #[.int .i64 bn, .int .i64 bd] 24)).alloc (by simp; omega) (.cells #[.int .i64 0, .int .i64 0] 24)).trans (hb1.mono (by simp; omega)))
  obtain ⟨c0, c1, f0, f1⟩ := (At2.new ((w.alloc (.cells #[.int .i64 an, .int .i64 ad] 24)).alloc (.cells #[.int .i64 bn, .int .i64 bd] 24)) (.int .i64 0) (.int .i64 0) 24).below hb1 (by simp)
  simp only [World.size_alloc] at c0 c1 f0 f1
  clear hb1 K
  go_wp2
  exact bodyPost_ret (v := .agg #[.int .i64 y, .int .i64 z]) (by simp [results, Try.results28, go_sem, c0, c1]) rfl ⟨rfl, (by repeat' (first | (with_reducible exact HB.out) | (with_reducible refine Below.setCell ?_ ?_ _) | (with_reducible refine Below.alloc ?_ ?_ _) | (with_reducible refine Below.drew ?_) | (with_reducible refine below_drewN ?_ _) | (with_reducible exact Below.refl _ _) | omega | (simp; done) | (simp; omega)))⟩
theorem rsum_any (x y : Rat) (w : World) (h1 : (x.num * y.den).natAbs ≤ 4000000000000000000) (h2 : (y.num * x.den).natAbs ≤ 4000000000000000000) (h3 : ((x.den : Int) * y.den) ≤ 9223372036854775807) :
    Calls Try.prog 28 #[RV x, RV y] w fun e w' => e = .returned (RV (x + y)) ∧ RowKit.Below w.heap.size w w' := by
  have p1 := den_pos x
  have p2 := den_pos y
  have hpos : 0 < (x.den : Int) * y.den := Int.mul_pos p1 p2
  have e : fr (x.num * y.den + y.num * x.den) ((x.den : Int) * y.den) = x + y := by
    rw [← fr_add p1 p2, fr_self, fr_self]
  obtain ⟨g1, g2⟩ := rND (n := x.num * y.den + y.num * x.den) (d := (x.den : Int) * y.den) (by omega) (by omega)
  rw [e] at g1 g2
  refine rsum_raw x.num x.den y.num y.den _ _ _ _ _ _ w (w64_id (x := x.num * y.den) (by omega)) (w64_id (x := y.num * x.den) (by omega)) (w64_id (x := x.num * y.den + y.num * x.den) (by omega)) (w64_id (x := (x.den : Int) * y.den) (by omega)) (fun w => ?_)
  have := rreduce_any (x.num * y.den + y.num * x.den) ((x.den : Int) * y.den) w (by omega) (by omega) (by omega) (by omega)
  rwa [g1, g2] at this

/-- The order of two numbers. -/
def cm (x y : Rat) : Int := if x < y then -1 else if y < x then 1 else 0
set_option maxRecDepth 100000 in
set_option maxHeartbeats 1000000 in
theorem rcompare_raw (an ad bn bd a b : Int) (w : World) (ha : IntKind.i64.wrap (an * bd) = a) (hb : IntKind.i64.wrap (bn * ad) = b) :
    Calls Try.prog 29 #[.agg #[.int .i64 an, .int .i64 ad], .agg #[.int .i64 bn, .int .i64 bd]] w fun e w' => e = .returned (.int .i64 (if a < b then -1 else if b < a then 1 else 0)) ∧ RowKit.Below w.heap.size w w' := by
  by_cases h : a < b
  · rw [if_pos h]
    go_enter Try.func29, Try.ntmps29
    go_wp2
    go_ret
    exact ⟨rfl, (by repeat' (first | (with_reducible refine Below.setCell ?_ ?_ _) | (with_reducible refine Below.alloc ?_ ?_ _) | (with_reducible refine Below.drew ?_) | (with_reducible refine below_drewN ?_ _) | (with_reducible exact Below.refl _ _) | omega | (simp; done) | (simp; omega)))⟩
  · rw [if_neg h]
    by_cases h' : b < a
    · rw [if_pos h']
      have h2 : a > b := h'
      go_enter Try.func29, Try.ntmps29
      go_wp2
      go_ret
      exact ⟨rfl, (by repeat' (first | (with_reducible refine Below.setCell ?_ ?_ _) | (with_reducible refine Below.alloc ?_ ?_ _) | (with_reducible refine Below.drew ?_) | (with_reducible refine below_drewN ?_ _) | (with_reducible exact Below.refl _ _) | omega | (simp; done) | (simp; omega)))⟩
    · rw [if_neg h']
      have h2 : ¬ a > b := h'
      go_enter Try.func29, Try.ntmps29
      go_wp2
      go_ret
      exact ⟨rfl, (by repeat' (first | (with_reducible refine Below.setCell ?_ ?_ _) | (with_reducible refine Below.alloc ?_ ?_ _) | (with_reducible refine Below.drew ?_) | (with_reducible refine below_drewN ?_ _) | (with_reducible exact Below.refl _ _) | omega | (simp; done) | (simp; omega)))⟩
theorem rat_lt {x y : Rat} : x < y ↔ x.num * y.den < y.num * x.den := by
  have := fr_lt (a := x.num) (b := x.den) (c := y.num) (d := y.den) (den_pos x) (den_pos y)
  rwa [fr_self, fr_self] at this
theorem rcompare_any (x y : Rat) (w : World) (h1 : (x.num * y.den).natAbs ≤ 9223372036854775807) (h2 : (y.num * x.den).natAbs ≤ 9223372036854775807) :
    Calls Try.prog 29 #[RV x, RV y] w fun e w' => e = .returned (.int .i64 (cm x y)) ∧ RowKit.Below w.heap.size w w' := by
  have := rcompare_raw x.num x.den y.num y.den _ _ w (w64_id (x := x.num * y.den) (by omega)) (w64_id (x := y.num * x.den) (by omega))
  unfold cm
  simp only [rat_lt]
  exact this

/-! ### One piece continues another one -/
def D2 (a p a' p' : Int) : Prop := (¬ a = a') ∨ (a = a' ∧ ¬ p = p')
/-- As the machine decides it. -/
def cW (a b : RP) : Bool := decide (a.sn = b.sn ∧ a.sd = b.sd ∧ rN (liN a b.f) (liD a) = b.vn ∧ rD (liN a b.f) (liD a) = b.vd)
set_option maxRecDepth 100000 in
set_option maxHeartbeats 1000000 in
theorem rcont_raw (f vn vd sn sd f' vn' vd' sn' sd' y z : Int) (c : Bool) (w : World) (hc : (c = false ∧ D2 sn sd sn' sd') ∨ (sn = sn' ∧ sd = sd' ∧ ((c = false ∧ D2 y z vn' vd') ∨ (c = true ∧ y = vn' ∧ z = vd'))))
    (K : Hid (∀ w, Calls Try.prog 45 #[.agg #[.int .i64 f, .int .i64 vn, .int .i64 vd, .int .i64 sn, .int .i64 sd], .int .i64 f'] w fun e w' => e = .returned (.agg #[.int .i64 y, .int .i64 z]) ∧ RowKit.Below w.heap.size w w')) :
    Calls Try.prog 52 #[.agg #[.int .i64 f, .int .i64 vn, .int .i64 vd, .int .i64 sn, .int .i64 sd], .agg #[.int .i64 f', .int .i64 vn', .int .i64 vd', .int .i64 sn', .int .i64 sd']] w fun e w' => e = .returned (.bool c) ∧ RowKit.Below w.heap.size w w' := by
  go_enter Try.func52, Try.ntmps52
  go_wp2_with fail
  obtain ⟨W0, hW0⟩ : ∃ W0, W0 = (w.alloc (.cells #[.int .i64 f, .int .i64 vn, .int .i64 vd, .int .i64 sn, .int .i64 sd] 51)).alloc (.cells #[.int .i64 f', .int .i64 vn', .int .i64 vd', .int .i64 sn', .int .i64 sd'] 51) := ⟨_, rfl⟩
  rw [← hW0]
  obtain ⟨c0, c1, c2, c3, c4, _, _, _, _, _⟩ : At5 W0 w.heap.size (.int .i64 f) (.int .i64 vn) (.int .i64 vd) (.int .i64 sn) (.int .i64 sd) := by rw [hW0]; exact (At5.new w _ _ _ _ _ _).alloc (by simp) _
  obtain ⟨c0', c1', c2', c3', c4', _, _, _, _, _⟩ : At5 W0 (w.heap.size + 1) (.int .i64 f') (.int .i64 vn') (.int .i64 vd') (.int .i64 sn') (.int .i64 sd') := by
    rw [hW0]; have := At5.new (w.alloc (.cells #[.int .i64 f, .int .i64 vn, .int .i64 vd, .int .i64 sn, .int .i64 sd] 51)) (.int .i64 f') (.int .i64 vn') (.int .i64 vd') (.int .i64 sn') (.int .i64 sd') 51; rwa [World.size_alloc] at this
  have hz0 : w.heap.size + 1 < W0.heap.size := by rw [hW0]; simp
  have HB : RowKit.Below w.heap.size w W0 := by rw [hW0]; exact (by repeat' (first | (with_reducible refine Below.setCell ?_ ?_ _) | (with_reducible refine Below.alloc ?_ ?_ _) | (with_reducible refine Below.drew ?_) | (with_reducible refine below_drewN ?_ _) | (with_reducible exact Below.refl _ _) | omega | (simp; done) | (simp; omega)))
  have HB0 := Lib.hid HB
  clear hW0 HB
  have l0 := cell_bw (by show w.heap.size < _; omega) c0
  have l1 := cell_bw (by show w.heap.size < _; omega) c1
  have l2 := cell_bw (by show w.heap.size < _; omega) c2
  have l3 := cell_bw (by show w.heap.size < _; omega) c3
  have l4 := cell_bw (by show w.heap.size < _; omega) c4
  have l0' := cell_bw (by show w.heap.size + 1 < _; omega) c0'
  have l1' := cell_bw (by show w.heap.size + 1 < _; omega) c1'
  have l2' := cell_bw (by show w.heap.size + 1 < _; omega) c2'
  have l3' := cell_bw (by show w.heap.size + 1 < _; omega) c3'
  have l4' := cell_bw (by show w.heap.size + 1 < _; omega) c4'
  clear c0 c1 c2 c3 c4 c0' c1' c2' c3' c4'
  obtain ⟨rfl, hd | ⟨rfl, hd⟩⟩ | ⟨rfl, rfl, ⟨rfl, hd | ⟨rfl, hd⟩⟩ | ⟨rfl, rfl, rfl⟩⟩ := hc
  all_goals
    refine wp_region_bw mixed (by kernel_rfl) ?_
    repeat (go_big_quiet_step ((with_reducible refine Calls.bw_of (K.out _))))
    refine wpQuiet_nil ?_
    intro W HW
    replace HW := bw_out HW
    go_wp2
    go_ret
    exact ⟨rfl, HB0.out.trans (HW.mono HB0.out.size)⟩
theorem rcont_w (a b : RP) (w : World) (hd : 1 ≤ liD a) : Calls Try.prog 52 #[a.V, b.V] w fun e w' => e = .returned (.bool (cW a b)) ∧ RowKit.Below w.heap.size w w' := by
  refine rcont_raw a.f a.vn a.vd a.sn a.sd b.f b.vn b.vd b.sn b.sd (rN (liN a b.f) (liD a)) (rD (liN a b.f) (liD a)) _ w ?_ (fun w => rline_w a b.f w hd)
  unfold cW D2
  by_cases h1 : a.sn = b.sn
  · by_cases h2 : a.sd = b.sd
    · refine .inr ⟨h1, h2, ?_⟩
      by_cases h3 : rN (liN a b.f) (liD a) = b.vn
      · by_cases h4 : rD (liN a b.f) (liD a) = b.vd
        · exact .inr ⟨decide_eq_true ⟨h1, h2, h3, h4⟩, h3, h4⟩
        · exact .inl ⟨decide_eq_false fun h => h4 h.2.2.2, .inr ⟨h3, h4⟩⟩
      · exact .inl ⟨decide_eq_false fun h => h3 h.2.2.1, .inl h3⟩
    · exact .inl ⟨decide_eq_false fun h => h2 h.2.1, .inr ⟨h1, h2⟩⟩
  · exact .inl ⟨decide_eq_false fun h => h1 h.1, .inl h1⟩
/-- A piece in lowest terms. -/
def Low (p : RP) : Prop := p = toRP (toAP p)
theorem low_wl {p : RP} (h : wl p = true) : Low p := (back h).symm
theorem cW_is {a b : RP} (h : LiOk a b.f) (ha : Low a) (hb : Low b) : cW a b = cont (toAP a) (toAP b) := by
  obtain ⟨h1, h2, _⟩ := h.is
  unfold cW cont
  rw [h1, h2]
  congr 1
  have ea := congrArg RP.sn ha
  have ea' := congrArg RP.sd ha
  have eb := congrArg RP.sn hb
  have eb' := congrArg RP.sd hb
  have ev := congrArg RP.vn hb
  have ev' := congrArg RP.vd hb
  unfold toRP at ea ea' eb eb' ev ev'
  simp only at ea ea' eb eb' ev ev'
  have ext : ∀ {x y : Rat}, x.num = y.num → (x.den : Int) = y.den → x = y := fun {x y} h1 h2 => (fr_self x).symm.trans ((by rw [h1, h2] : fr x.num x.den = fr y.num y.den).trans (fr_self y))
  rw [ea, ea', eb, eb', ev, ev']
  refine propext ⟨fun ⟨g1, g2, g3, g4⟩ => ⟨ext g1 g2, ext g3 g4⟩, fun ⟨g1, g2⟩ => ?_⟩
  have g2' : (toAP a).at b.f = (toAP b).v := g2
  rw [g1, g2']
  exact ⟨rfl, rfl, rfl, rfl⟩
end Go.Proofs.Ytmjdolgcgbiajaa
