/-
  Contract of the reference's Add.
-/
import Derived.Test.YtmjdolgcgbiajaaPResM
import Derived.Test.YtmjdolgcgbiajaaPStarts
import Derived.Test.YtmjdolgcgbiajaaPHeld2
namespace Go.Proofs.Ytmjdolgcgbiajaa
open Go.RowKit Go.Shelf Pw

theorem pcX_wl {f : List RP} (hf : VR f) (x : Int) : wl (pcX f x) = true ∧ 0 ≤ (pcX f x).f ∧ (pcX f x).f ≤ 100000 := hf.wl (pcX_mem (x := x) hf.1)
theorem pcX_at {f : List RP} (hf : VR f) (x : Int) : (toAP (pcX f x)).at x = vl (AA f) x ∧ toAP (pcX f x) = pA (AA f) x := by
  have e : toAP (pcX f x) = pA (AA f) x := by unfold AA; exact pcX_AA hf.1
  exact ⟨by unfold vl; rw [e], e⟩
/-- Piece of the reference, in letters. -/
theorem rpiece_n {l : List RP} (hv : VR l) {x : Int} {X : RP} (hX : X = pcX l x) (p : Option Addr) (b off cap len : Nat) (w : World) (hS : SlP w p b off len l) :
    Calls Try.prog 44 #[.slice p len cap, .int .i64 x] w fun e w' => e = .returned (.agg #[.int .i64 X.f, .int .i64 X.vn, .int .i64 X.vd, .int .i64 X.sn, .int .i64 X.sd]) ∧ RowKit.Below w.heap.size w w' := by
  subst hX
  exact rpiece_any l p b off cap len x w hS (by have := hS.ln; have := hv.1; omega)
theorem rline_n {X : RP} {x n d : Int} (h : wl X = true ∧ 0 ≤ X.f ∧ X.f ≤ 100000) (x0 : 0 ≤ x) (x1 : x ≤ 100000) (hn : n = ((toAP X).at x).num) (hd : d = ((toAP X).at x).den) (w : World) :
    Calls Try.prog 45 #[.agg #[.int .i64 X.f, .int .i64 X.vn, .int .i64 X.vd, .int .i64 X.sn, .int .i64 X.sd], .int .i64 x] w fun e w' => e = .returned (.agg #[.int .i64 n, .int .i64 d]) ∧ RowKit.Below w.heap.size w w' := by
  subst hn hd
  exact rline_any X x w (liok_wl h.1 (by omega))
theorem slope_nd {X : RP} (h : wl X = true) : (toAP X).s.num = X.sn ∧ ((toAP X).s.den : Int) = X.sd := val_fr (wl_val h).2.2.1
theorem ps_in {P : Int → Bool} {N : Nat} (hN : N = 100001) {x : Int} (h : x ∈ ps P N) : 0 ≤ x ∧ x ≤ 100000 := by
  have := ps_mem.1 h
  omega
theorem liD_pos {v s : Rat} (h1 : (v.den : Int) ≤ 1000000000) (h2 : (s.den : Int) ≤ 1000000000) (f : Int) : 1 ≤ liD ⟨f, v.num, v.den, s.num, s.den⟩ := by
  have p1 := den_pos v
  have p2 := den_pos s
  have m := mul_bd (a := (v.den : Int)) (b := (s.den : Int)) (A := 1000000000) (B := 1000000000) (by omega) (by omega)
  have m2 : 0 < (v.den : Int) * s.den := Int.mul_pos p1 p2
  unfold liD
  rw [w64_id (x := (v.den : Int) * s.den) (by omega)]
  exact m2
theorem sum_den {a b : Rat} (h1 : (a.den : Int) ≤ 10000) (h2 : (b.den : Int) ≤ 10000) : ((a + b).den : Int) ≤ 100000000 := by
  have p1 := den_pos a
  have p2 := den_pos b
  have e : fr (a.num * b.den + b.num * a.den) ((a.den : Int) * b.den) = a + b := by rw [← fr_add p1 p2, fr_self, fr_self]
  have hpos : 0 < (a.den : Int) * b.den := Int.mul_pos p1 p2
  have m := mul_bd (a := (a.den : Int)) (b := (b.den : Int)) (A := 10000) (B := 10000) (by omega) (by omega)
  have := (fr_bd (n := a.num * b.den + b.num * a.den) hpos).2
  rw [e] at this
  omega
theorem sum_num {a b : Rat} (h1 : a.num.natAbs ≤ 2000000000000) (h2 : (a.den : Int) ≤ 10000) (h3 : b.num.natAbs ≤ 2000000000000) (h4 : (b.den : Int) ≤ 10000) : (a + b).num.natAbs ≤ 4000000000000000000 + 4000000000000000000 := by
  have p1 := den_pos a
  have p2 := den_pos b
  have e : fr (a.num * b.den + b.num * a.den) ((a.den : Int) * b.den) = a + b := by rw [← fr_add p1 p2, fr_self, fr_self]
  have hpos : 0 < (a.den : Int) * b.den := Int.mul_pos p1 p2
  obtain ⟨m1, m2, _⟩ := sum_bd h1 h2 h3 h4
  have := (fr_bd (n := a.num * b.den + b.num * a.den) hpos).1
  rw [e] at this
  omega
/-- The pieces that the reference makes of a sum come to the same result. -/
theorem radd_is {f g : List RP} : chR (rdW ((ps (isS (AA f) (AA g)) 100001).map fun x => toRP (addH (AA f) (AA g) x))) = addR f g := by
  have h := chR_W (A := addL (AA f) (AA g)) fun q hq => by
    obtain ⟨x, hx, rfl⟩ := List.mem_map.1 hq
    exact ps_in rfl hx
  unfold addL at h
  rw [List.map_map] at h
  exact h
theorem addH_liD {f g : List RP} (hf : VR f) (hg : VR g) {x : Int} (x0 : 0 ≤ x) (x1 : x ≤ 100000) : 1 ≤ liD (toRP (addH (AA f) (AA g) x)) := by
  have b1 := vl_bd hf x0 x1
  have b2 := vl_bd hg x0 x1
  have s1 := pcX_wl hf x
  have s2 := pcX_wl hg x
  have e1 := slope_nd s1.1
  have e2 := slope_nd s2.1
  have k1 := wl_val s1.1
  have k2 := wl_val s2.1
  rw [(pcX_at hf x).2] at e1
  rw [(pcX_at hg x).2] at e2
  have d1 := sum_den (a := vl (AA f) x) (b := vl (AA g) x) b1.2 b2.2
  have d2 := sum_den (a := (pA (AA f) x).s) (b := (pA (AA g) x).s) (by rw [e1.2]; omega) (by rw [e2.2]; omega)
  exact liD_pos (v := vl (AA f) x + vl (AA g) x) (s := (pA (AA f) x).s + (pA (AA g) x).s) (by omega) (by omega) x

theorem addH_in {f g : List RP} (hf : VR f) (hg : VR g) {x : Int} (x0 : 0 ≤ x) (x1 : x ≤ 100000) : (toRP (addH (AA f) (AA g) x)).In := by
  have b1 := vl_bd hf x0 x1
  have b2 := vl_bd hg x0 x1
  have s1 := pcX_wl hf x
  have s2 := pcX_wl hg x
  have e1 := slope_nd s1.1
  have e2 := slope_nd s2.1
  have k1 := wl_val s1.1
  have k2 := wl_val s2.1
  rw [(pcX_at hf x).2] at e1
  rw [(pcX_at hg x).2] at e2
  have d1 := sum_den (a := vl (AA f) x) (b := vl (AA g) x) b1.2 b2.2
  have d2 := sum_den (a := (pA (AA f) x).s) (b := (pA (AA g) x).s) (by rw [e1.2]; omega) (by rw [e2.2]; omega)
  have n1 := sum_num b1.1 b1.2 b2.1 b2.2
  have n2 := sum_num (a := (pA (AA f) x).s) (b := (pA (AA g) x).s) (by rw [e1.1]; omega) (by rw [e1.2]; omega) (by rw [e2.1]; omega) (by rw [e2.2]; omega)
  have q1 := den_pos (vl (AA f) x + vl (AA g) x)
  have q2 := den_pos ((pA (AA f) x).s + (pA (AA g) x).s)
  refine ⟨by show In64 x; unfold In64; omega, ?_, ?_, ?_, ?_⟩
  · show In64 (vl (AA f) x + vl (AA g) x).num; unfold In64; omega
  · show In64 ((vl (AA f) x + vl (AA g) x).den : Int); unfold In64; omega
  · show In64 ((pA (AA f) x).s + (pA (AA g) x).s).num; unfold In64; omega
  · show In64 (((pA (AA f) x).s + (pA (AA g) x).s).den : Int); unfold In64; omega

set_option maxRecDepth 100000 in
set_option maxHeartbeats 1000000 in
theorem radd_bad (f g : List RP) (pf pg : Option Addr) (bf of cf lf bg og cg lg : Nat) (w : World) (hS : SlP w pf bf of lf f) (hS' : SlP w pg bg og lg g) (b1 b2 : Bool) (hv : vR f = b1) (hv' : vR g = b2) (hx : b1 = false ∨ b1 = true ∧ b2 = false) :
    Calls Try.prog 17 #[.slice pf lf cf, .slice pg lg cg] w fun e w' => OutP (RowKit.Below w.heap.size w) [] 1 e w' := by
  have K := Lib.hid (fun w' (h : RowKit.Below w.heap.size w w') => rvalid_b f b1 hv pf bf of cf lf w' (hS.below h))
  have K' := Lib.hid (fun w' (h : RowKit.Below w.heap.size w w') => rvalid_b g b2 hv' pg bg og cg lg w' (hS'.below h))
  clear hS hS' hv hv'
  rcases hx with rfl | ⟨rfl, rfl⟩
  all_goals
    go_enter Try.func17, Try.ntmps17
    go_wp2_with fail
    refine (K.out _ (Below.refl _ _)).mono ?_
    rintro _ w1 ⟨rfl, hb⟩
    have HB := Lib.hid hb
    clear hb
    go_wp2_with fail
    refine (K'.out _ HB.out).mono ?_
    rintro _ w2 ⟨rfl, hb⟩
    have HB2 := Lib.hid (HB.out.trans (hb.mono HB.out.size))
    clear hb
    go_wp2
    go_ret2
    exact OutP.bad HB2.out

set_option maxRecDepth 100000 in
set_option maxHeartbeats 4000000 in
theorem radd_yes (f g : List RP) (pf pg : Option Addr) (bf of cf lf bg og cg lg : Nat) (w : World) (hS : SlP w pf bf of lf f) (hS' : SlP w pg bg og lg g) (hf : VR f) (hg : VR g) :
    Calls Try.prog 17 #[.slice pf lf cf, .slice pg lg cg] w fun e w' => OutP (RowKit.Below w.heap.size w) (addR f g).1 (addR f g).2 e w' := by
  have K := Lib.hid (fun w' (h : RowKit.Below w.heap.size w w') => rvalid_b f true (vR_iff.2 hf) pf bf of cf lf w' (hS.below h))
  have K' := Lib.hid (fun w' (h : RowKit.Below w.heap.size w w') => rvalid_b g true (vR_iff.2 hg) pg bg og cg lg w' (hS'.below h))
  have KS := Lib.hid (fun w' (h : RowKit.Below w.heap.size w w') => rstarts_any f g pf pg bf of cf lf bg og cg lg w' (hS.below h) (hS'.below h) hf hg)
  have HS := Lib.hid hS
  have HS' := Lib.hid hS'
  have HVf := Lib.hid hf
  have HVg := Lib.hid hg
  obtain ⟨R, hR⟩ : ∃ R, R = addR f g := ⟨_, rfl⟩
  rw [← hR]
  rw [← radd_is] at hR
  have hin := fun (x : Int) (h : x ∈ ps (isS (AA f) (AA g)) 100001) => ps_in rfl h
  have hlen := ps_len (P := isS (AA f) (AA g)) (n := 100001)
  generalize ps (isS (AA f) (AA g)) 100001 = S at *
  have HR := Lib.hid hR
  have HIN := Lib.hid hin
  have HLEN := Lib.hid hlen
  clear hS hS' hf hg hR hin hlen
  go_enter Try.func17, Try.ntmps17
  go_wp2_with fail
  refine (K.out _ (Below.refl _ _)).mono ?_
  rintro _ w1 ⟨rfl, hb⟩
  have HB := Lib.hid hb
  clear hb
  go_wp2_with fail
  refine (K'.out _ HB.out).mono ?_
  rintro _ w2 ⟨rfl, hb⟩
  have HB2 := Lib.hid (HB.out.trans (hb.mono HB.out.size))
  clear hb
  go_wp2_with fail
  refine (KS.out _ HB2.out).mono ?_
  rintro _ w3 ⟨ps, bs, cs, rfl, hs, hb⟩
  have HB3 := Lib.hid (HB2.out.trans (hb.mono HB2.out.size))
  have HSS := Lib.hid hs
  have hps := hs.ptr
  obtain ⟨m, hm⟩ : ∃ m, m = S.length := ⟨_, rfl⟩
  rw [← hm] at HSS hps ⊢
  have HM := Lib.hid hm
  have hm1 : m ≤ 100001 := by have := HLEN.out; omega
  clear hb hs hm HB HB2 K K' KS
  go_wp2_with fail
  go_loopg [8, 10] m (fun q s8 s10 wr => ∃ k : Nat, s10 = .int .i64 k ∧ k ≤ m ∧ m - k ≤ q ∧ Hid (RowKit.Below w3.heap.size w3 wr) ∧ Hid (OwnP wr w3.heap.size s8 ((S.take k).map fun x => toRP (addH (AA f) (AA g) x))))
  case atStart => exact ⟨0, rfl, by omega, by omega, Below.refl _ _, OwnP.empty _ _⟩
  case round =>
    obtain ⟨k, rfl, hk, hkq, HBr, HO⟩ := hrel
    by_cases hlt : k < m
    · have hltz : (k : Int) < (m : Int) := by omega
      have hp := hps (by omega)
      subst hp
      have hkl : k < S.length := by rw [← HM.out]; exact hlt
      have x0 := (HSS.out.below HBr.out).cells k hkl
      have hx := HIN.out S[k] (List.getElem_mem hkl)
      have hT : (S.take (k + 1)).map (fun x => toRP (addH (AA f) (AA g) x)) = (S.take k).map (fun x => toRP (addH (AA f) (AA g) x)) ++ [toRP (addH (AA f) (AA g) S[k])] := by
        rw [List.take_succ_eq_append_getElem hkl, List.map_append]; rfl
      have HTL := Lib.hid (show ((S.take k).map fun x => toRP (addH (AA f) (AA g) x)).length ≤ 100001 from by rw [List.length_map, List.length_take]; omega)
      obtain ⟨x, hxx⟩ : ∃ x, x = S[k] := ⟨_, rfl⟩
      rw [← hxx] at x0 hx hT
      clear hxx
      obtain ⟨X, hX⟩ : ∃ X, X = pcX f x := ⟨_, rfl⟩
      obtain ⟨Y, hY⟩ : ∃ Y, Y = pcX g x := ⟨_, rfl⟩
      have wX := pcX_wl HVf.out x
      have wY := pcX_wl HVg.out x
      have aX := pcX_at HVf.out x
      have aY := pcX_at HVg.out x
      rw [← hX] at wX aX
      rw [← hY] at wY aY
      have bX := at_bd wX.1 wX.2.1 wX.2.2 hx.1 hx.2
      have bY := at_bd wY.1 wY.2.1 wY.2.2 hx.1 hx.2
      have sX := slope_nd wX.1
      have sY := slope_nd wY.1
      have kX := wl_val wX.1
      have kY := wl_val wY.1
      obtain ⟨n1, hn1⟩ : ∃ n, n = ((toAP X).at x).num := ⟨_, rfl⟩
      obtain ⟨d1, hd1⟩ : ∃ d : Int, d = ((toAP X).at x).den := ⟨_, rfl⟩
      obtain ⟨n2, hn2⟩ : ∃ n, n = ((toAP Y).at x).num := ⟨_, rfl⟩
      obtain ⟨d2, hd2⟩ : ∃ d : Int, d = ((toAP Y).at x).den := ⟨_, rfl⟩
      have KL1 := Lib.hid (fun w => rline_n wX hx.1 hx.2 hn1 hd1 w)
      have KL2 := Lib.hid (fun w => rline_n wY hx.1 hx.2 hn2 hd2 w)
      obtain ⟨q1, q2, q3⟩ := sum_bd bX.1 bX.2 bY.1 bY.2
      have KA := fun w => rsum_any ((toAP X).at x) ((toAP Y).at x) w q1 q2 q3
      obtain ⟨r1, r2, r3⟩ := sum_bd (a := (toAP X).s) (b := (toAP Y).s) (by rw [sX.1]; omega) (by rw [sX.2]; omega) (by rw [sY.1]; omega) (by rw [sY.2]; omega)
      have KB := fun w => rsum_any (toAP X).s (toAP Y).s w r1 r2 r3
      unfold RV at KA KB
      rw [← hn1, ← hd1, ← hn2, ← hd2] at KA
      rw [sX.1, sX.2, sY.1, sY.2] at KB
      obtain ⟨Z, hZ⟩ : ∃ Z, Z = toRP (addH (AA f) (AA g) x) := ⟨_, rfl⟩
      have eZ : Z = ⟨x, ((toAP X).at x + (toAP Y).at x).num, ((toAP X).at x + (toAP Y).at x).den, ((toAP X).s + (toAP Y).s).num, ((toAP X).s + (toAP Y).s).den⟩ := by
        rw [hZ, aX.1, aY.1, aX.2, aY.2]; rfl
      rw [show ((toAP X).at x + (toAP Y).at x).num = Z.vn by rw [eZ], show (((toAP X).at x + (toAP Y).at x).den : Int) = Z.vd by rw [eZ]] at KA
      rw [show ((toAP X).s + (toAP Y).s).num = Z.sn by rw [eZ], show (((toAP X).s + (toAP Y).s).den : Int) = Z.sd by rw [eZ]] at KB
      have eZf : Z.f = x := by rw [eZ]
      rw [← hZ] at hT
      replace KA := Lib.hid KA
      replace KB := Lib.hid KB
      have HT := Lib.hid hT
      have HX := Lib.hid hX
      have HY := Lib.hid hY
      have HZf := Lib.hid eZf
      clear hX hY wX wY aX aY bX bY sX sY kX kY hn1 hd1 hn2 hd2 q1 q2 q3 r1 r2 r3 hZ eZ eZf hT
      go_wp2_with fail
      refine (rpiece_n HVf.out HX.out _ _ _ _ _ _ (HS.out.below (HB3.out.trans (HBr.out.mono HB3.out.size)))).mono ?_
      rintro _ w4 ⟨rfl, hb⟩
      have hO4 := HO.out.below hb
      have hB4 := HBr.out.trans (hb.mono HBr.out.size)
      have hz4 := hb.size
      have hrow := HO.out.lt
      clear hb x0
      go_wp2_with fail
      obtain ⟨w5, h5⟩ : ∃ w5, w5 = w4.alloc (.cells #[.int .i64 X.f, .int .i64 X.vn, .int .i64 X.vd, .int .i64 X.sn, .int .i64 X.sd] 51) := ⟨_, rfl⟩
      have p5 : PcB w5 w4.heap.size X := by rw [h5]; exact World.alloc_heap_new w4 _
      have hb5 : RowKit.Below w4.heap.size w4 w5 := by rw [h5]; exact (Below.refl _ _).alloc (Nat.le_refl _) _
      rw [← h5]
      clear h5
      have hO5 := hO4.below hb5
      have hB5 := hB4.trans (hb5.mono hB4.size)
      clear hb5 hO4
      refine (rpiece_n HVg.out HY.out _ _ _ _ _ _ (HS'.out.below (HB3.out.trans (hB5.mono HB3.out.size)))).mono ?_
      rintro _ w6 ⟨rfl, hb⟩
      have p6 := p5.below hb
      have hz6 := p6.lt
      have hO6 := hO5.below hb
      have hB6 := hB5.trans (hb.mono hB5.size)
      clear hb hO5 p5 hB5
      go_wp2_with fail
      refine wp_region_dr mixed ?_
      obtain ⟨w7, h7⟩ : ∃ w7, w7 = w6.alloc (.cells #[.int .i64 Y.f, .int .i64 Y.vn, .int .i64 Y.vd, .int .i64 Y.sn, .int .i64 Y.sd] 51) := ⟨_, rfl⟩
      have y7 : PcB w7 w6.heap.size Y := by rw [h7]; exact World.alloc_heap_new w6 _
      have hb7 : RowKit.Below w6.heap.size w6 w7 := by rw [h7]; exact (Below.refl _ _).alloc (Nat.le_refl _) _
      rw [← h7]
      clear h7
      have hd : RowKit.Below w7.heap.size w7 w7.drew := (Below.refl _ w7).drew
      have x8 := (p6.below hb7).below hd
      have y8 := y7.below hd
      have hO8 := (hO6.below hb7).below hd
      have hB8 := (hB6.trans (hb7.mono hB6.size)).trans (hd.mono (hB6.trans (hb7.mono hB6.size)).size)
      have hS8 := And.intro x8.all y8.all
      have hz := hB8.size
      generalize w7.drew = w8 at *
      clear hd y7 hb7 p6 hO6 hB6
      refine wpAny_of_held (S := (fun w' => (w'.cell? ⟨w4.heap.size, 0, none⟩ = some (.int .i64 X.f) ∧ w'.cell? ⟨w4.heap.size, 1, none⟩ = some (.int .i64 X.vn) ∧ w'.cell? ⟨w4.heap.size, 2, none⟩ = some (.int .i64 X.vd) ∧ w'.cell? ⟨w4.heap.size, 3, none⟩ = some (.int .i64 X.sn) ∧ w'.cell? ⟨w4.heap.size, 4, none⟩ = some (.int .i64 X.sd)) ∧ (w'.cell? ⟨w6.heap.size, 0, none⟩ = some (.int .i64 Y.f) ∧ w'.cell? ⟨w6.heap.size, 1, none⟩ = some (.int .i64 Y.vn) ∧ w'.cell? ⟨w6.heap.size, 2, none⟩ = some (.int .i64 Y.vd) ∧ w'.cell? ⟨w6.heap.size, 3, none⟩ = some (.int .i64 Y.sn) ∧ w'.cell? ⟨w6.heap.size, 4, none⟩ = some (.int .i64 Y.sd)))) _ _ _ _ ?_
      refine tk0 (v := ?_) (by kernel_rfl) (by kernel_rfl) (by kernel_rfl) (fun _ _ _ h => h) (Or.inl ⟨by rfl, ?_⟩) hS8 ?_
      rotate_left
      · (intro w hSw; (try dsimp only at hSw); go_simp; try with_reducible rfl)
      simp only [Act.put, List.setIfInBounds_toArray, List.set_cons_zero, List.set_cons_succ]
      refine tk1 (v := ?_) (by kernel_rfl) (by kernel_rfl) (by kernel_rfl) (fun _ _ _ h => h) (Or.inl ⟨by rfl, ?_⟩) hS8 ?_
      rotate_left
      · (intro w hSw; (try dsimp only at hSw); go_simp; try with_reducible rfl)
      simp only [Act.put, List.setIfInBounds_toArray, List.set_cons_zero, List.set_cons_succ]
      refine tk2 (v := ?_) (by kernel_rfl) (by kernel_rfl) (by kernel_rfl) (fun _ _ _ h => h) (Or.inl ⟨by rfl, ?_⟩) hS8 ?_
      rotate_left
      · (intro w hSw; (try dsimp only at hSw); go_simp; try with_reducible rfl)
      simp only [Act.put, List.setIfInBounds_toArray, List.set_cons_zero, List.set_cons_succ]
      refine tk3 (v := ?_) (by kernel_rfl) (by kernel_rfl) (by kernel_rfl) (fun _ _ _ h => h) (Or.inl ⟨by rfl, ?_⟩) hS8 ?_
      rotate_left
      · (intro w hSw; (try dsimp only at hSw); go_simp; try with_reducible rfl)
      simp only [Act.put, List.setIfInBounds_toArray, List.set_cons_zero, List.set_cons_succ]
      refine tk5 (v := ?_) (by kernel_rfl) (by kernel_rfl) (by kernel_rfl) (fun _ _ _ h => h) (Or.inl ⟨by rfl, ?_⟩) hS8 ?_
      rotate_left
      · (intro w hSw; (try dsimp only at hSw); go_simp; try with_reducible rfl)
      simp only [Act.put, List.setIfInBounds_toArray, List.set_cons_zero, List.set_cons_succ]
      refine tk6 (v := ?_) (by kernel_rfl) (by kernel_rfl) (by kernel_rfl) (fun _ _ _ h => h) (Or.inl ⟨by rfl, ?_⟩) hS8 ?_
      rotate_left
      · (intro w hSw; (try dsimp only at hSw); go_simp; try with_reducible rfl)
      simp only [Act.put, List.setIfInBounds_toArray, List.set_cons_zero, List.set_cons_succ]
      refine tk9 (v := ?_) (by kernel_rfl) (by kernel_rfl) (by kernel_rfl) (fun _ _ _ h => h) (Or.inl ⟨by rfl, ?_⟩) hS8 ?_
      rotate_left
      · (intro w hSw; (try dsimp only at hSw); go_simp; try with_reducible rfl)
      simp only [Act.put, List.setIfInBounds_toArray, List.set_cons_zero, List.set_cons_succ]
      refine tk10 (v := ?_) (by kernel_rfl) (by kernel_rfl) (by kernel_rfl) (fun _ _ _ h => h) (Or.inl ⟨by rfl, ?_⟩) hS8 ?_
      rotate_left
      · (intro w hSw; (try dsimp only at hSw); go_simp; try with_reducible rfl)
      simp only [Act.put, List.setIfInBounds_toArray, List.set_cons_zero, List.set_cons_succ]
      refine tk11 (v := ?_) (by kernel_rfl) (by kernel_rfl) (by kernel_rfl) (fun _ _ _ h => h) (Or.inl ⟨by rfl, ?_⟩) hS8 ?_
      rotate_left
      · (intro w hSw; (try dsimp only at hSw); go_simp; try with_reducible rfl)
      simp only [Act.put, List.setIfInBounds_toArray, List.set_cons_zero, List.set_cons_succ]
      refine tk12 (v := ?_) (by kernel_rfl) (by kernel_rfl) (by kernel_rfl) (fun _ _ _ h => h) (Or.inl ⟨by rfl, ?_⟩) hS8 ?_
      rotate_left
      · (intro w hSw; (try dsimp only at hSw); go_simp; try with_reducible rfl)
      simp only [Act.put, List.setIfInBounds_toArray, List.set_cons_zero, List.set_cons_succ]
      refine wpAnyH_ready (rs := [4]) (by kernel_rfl) (by simp) (st4 (fun K hK => ?_) AllReadyH.nil)
      go_simp
      refine (KL1.out _).mono ?_
      rintro _ W1 ⟨rfl, hb⟩
      go_wp2_with fail
      have x9 := x8.below hb
      have y9 := y8.below hb
      have hO9 := hO8.below hb
      have hB9 := hB8.trans (hb.mono hB8.size)
      clear hb
      refine hK.out _ _ ?_ (fun hHeld => ?_)
      · exact ⟨x9.all, y9.all⟩
      clear hK K
      try simp only [Act.put, List.setIfInBounds_toArray, List.set_cons_zero, List.set_cons_succ]
      refine wpAnyH_ready (rs := [7]) (by kernel_rfl) (by simp) (st7 (fun K hK => ?_) AllReadyH.nil)
      go_simp
      refine (KL2.out _).mono ?_
      rintro _ W2 ⟨rfl, hb⟩
      go_wp2_with fail
      have xa := x9.below hb
      have ya := y9.below hb
      have hOa := hO9.below hb
      have hBa := hB9.trans (hb.mono hB9.size)
      clear hb
      refine hK.out _ _ ?_ (fun hHeld => ?_)
      · exact ⟨xa.all, ya.all⟩
      clear hK K
      try simp only [Act.put, List.setIfInBounds_toArray, List.set_cons_zero, List.set_cons_succ]
      refine wpAnyH_ready (rs := [8]) (by kernel_rfl) (by simp) (st8 (fun K hK => ?_) AllReadyH.nil)
      go_simp
      refine (KA.out _).mono ?_
      rintro _ W3 ⟨rfl, hb⟩
      go_wp2_with fail
      have xb := xa.below hb
      have yb := ya.below hb
      have hOb := hOa.below hb
      have hBb := hBa.trans (hb.mono hBa.size)
      clear hb
      refine hK.out _ _ ?_ (fun hHeld => ?_)
      · exact ⟨xb.all, yb.all⟩
      clear hK K
      try simp only [Act.put, List.setIfInBounds_toArray, List.set_cons_zero, List.set_cons_succ]
      refine wpAnyH_ready (rs := [13]) (by kernel_rfl) (by simp) (st13 (fun K hK => ?_) AllReadyH.nil)
      go_simp
      refine (KB.out _).mono ?_
      rintro _ W4 ⟨rfl, hb⟩
      go_wp2_with fail
      have xc := xb.below hb
      have yc := yb.below hb
      have hOc := hOb.below hb
      have hBc := hBb.trans (hb.mono hBb.size)
      clear hb
      refine hK.out _ _ ?_ (fun hHeld => ?_)
      · exact ⟨xc.all, yc.all⟩
      clear hK K
      try simp only [Act.put, List.setIfInBounds_toArray, List.set_cons_zero, List.set_cons_succ]
      refine tk14 (v := ?_) (by kernel_rfl) (by kernel_rfl) (by kernel_rfl) (fun _ _ _ h => h) (Or.inl ⟨by rfl, ?_⟩) hHeld ?_
      rotate_left
      · (intro w hSw; (try dsimp only at hSw); go_simp; try with_reducible rfl)
      simp only [Act.put, List.setIfInBounds_toArray, List.set_cons_zero, List.set_cons_succ]
      refine wpAnyH_ready (rs := [15]) (by kernel_rfl) (by simp) (st15 (fun K hK => ?_) AllReadyH.nil)
      go_simp
      have hal := (Below.refl _ W4).alloc (Nat.le_refl _) (.cells #[.int .i64 x, .int .i64 Z.vn, .int .i64 Z.vd, .int .i64 Z.sn, .int .i64 Z.sd] 51)
      have hBd := hBc.trans (hal.mono hBc.size)
      have hzc := hBc.size
      refine hK.out _ _ ?_ (fun hHeld => ?_)
      · exact ⟨(xc.below hal).all, (yc.below hal).all⟩
      clear hK K
      try simp only [Act.put, List.setIfInBounds_toArray, List.set_cons_zero, List.set_cons_succ]
      refine wpAnyH_ready (rs := [16]) (by kernel_rfl) (by simp) (st16 (fun K hK => ?_) AllReadyH.nil)
      refine step_appP rfl (.tmp 45) (.tmp 60) rfl w3.heap.size _ _ rfl (hOc.below hal) W4.heap.size 1 Z rfl (by have := OneP.new W4 Z 51; rw [HZf.out] at this; exact this) (by have := HTL.out; omega) (by simp; omega) (fun v' w' ho hg => ?_)
      have HB5 : Hid (RowKit.Below w3.heap.size w3 w') := hBd.grown hg (by simp; omega) (hOc.below hal).block
      have HO5 : Hid (OwnP w' w3.heap.size v' ((S.take (k + 1)).map fun x => toRP (addH (AA f) (AA g) x))) := by show OwnP _ _ _ _; rw [HT.out]; exact ho
      have xe : PcB w' w4.heap.size X := (hg.block _ (by have := (xc.below hal).lt; exact this) (fun e => by have := hrow _ e.symm; omega)).trans (xc.below hal)
      have ye : PcB w' w6.heap.size Y := (hg.block _ (by have := (yc.below hal).lt; exact this) (fun e => by have := hrow _ e.symm; omega)).trans (yc.below hal)
      refine hK.out _ _ ?_ (fun hHeld => ?_)
      · exact ⟨xe.all, ye.all⟩
      clear hK K
      try simp only [Act.put, List.setIfInBounds_toArray, List.set_cons_zero, List.set_cons_succ]
      refine tk17 (v := ?_) (by kernel_rfl) (by kernel_rfl) (by kernel_rfl) (fun _ _ _ h => h) (Or.inl ⟨by rfl, ?_⟩) hHeld ?_
      rotate_left
      · (intro w hSw; (try dsimp only at hSw); go_simp; try with_reducible rfl)
      simp only [Act.put, List.setIfInBounds_toArray, List.set_cons_zero, List.set_cons_succ]
      refine wpAnyH_done (by kernel_rfl) ?_ _
      clear xe ye ho hg hal hBd hzc xc yc hOc hBc xb yb hOb hBb xa ya hOa hBa x9 y9 hO9 hB9 x8 y8 hO8 hB8 hS8
      go_wp2_with fail
      go_roundg (m - (k + 1))
      case measure => omega
      case rel => exact ⟨k + 1, by go_num, by omega, by omega, HB5.out, HO5.out⟩
    · have hltz : ¬ (k : Int) < (m : Int) := by omega
      have eR : S.take k = S := List.take_of_length_le (by have := HM.out; omega)
      have hO := HO.out
      rw [eR] at hO
      have hIN : ∀ s, s ∈ S.map (fun x => toRP (addH (AA f) (AA g) x)) → s.In ∧ 1 ≤ liD s := fun s hs => by
        obtain ⟨x, hx, rfl⟩ := List.mem_map.1 hs
        have hx' := HIN.out x hx
        exact ⟨addH_in HVf.out HVg.out hx'.1 hx'.2, addH_liD HVf.out HVg.out hx'.1 hx'.2⟩
      obtain ⟨p2, b2, cp, hv, hS2⟩ := hO.reads (by rw [List.length_map, ← HM.out]; omega) (fun s hs => (hIN s hs).1)
      have hln : (S.map fun x => toRP (addH (AA f) (AA g) x)).length = m := by rw [List.length_map]; exact HM.out.symm
      rw [hln] at hv hS2
      subst hv
      have KC := Lib.hid (rresult_any _ p2 b2 0 cp m wr hS2 (fun s hs => (hIN s hs).2) (by omega))
      rw [← HR.out] at KC
      have HBg := Lib.hid (HB3.out.trans (HBr.out.mono HB3.out.size))
      clear hS2 hln hO eR hIN
      go_wp2_with fail
      refine KC.out.mono ?_
      rintro _ w4 ⟨p3, b3, off3, len3, cap3, rfl, hs3, hb3⟩
      have HS3 := Lib.hid hs3
      have HB4 := Lib.hid (HBg.out.trans (hb3.mono HBg.out.size))
      clear hs3 hb3
      go_wp2
      go_ret2
      exact ⟨p3, b3, off3, len3, cap3, rfl, HS3.out, HB4.out⟩
theorem radd_any (f g : List RP) (pf pg : Option Addr) (bf of cf lf bg og cg lg : Nat) (w : World) (hS : SlP w pf bf of lf f) (hS' : SlP w pg bg og lg g) :
    Calls Try.prog 17 #[.slice pf lf cf, .slice pg lg cg] w fun e w' => OutP (RowKit.Below w.heap.size w) (opR f g (addR f g)).1 (opR f g (addR f g)).2 e w' := by
  by_cases hf : VR f
  · by_cases hg : VR g
    · rw [show opR f g (addR f g) = addR f g from if_pos ⟨hf, hg⟩]
      exact radd_yes f g pf pg bf of cf lf bg og cg lg w hS hS' hf hg
    · rw [show opR f g (addR f g) = ([], 1) from if_neg fun h => hg h.2]
      exact radd_bad f g pf pg bf of cf lf bg og cg lg w hS hS' true false (vR_iff.2 hf) (vR_no hg) (.inr ⟨rfl, rfl⟩)
  · rw [show opR f g (addR f g) = ([], 1) from if_neg fun h => hf h.1]
    exact radd_bad f g pf pg bf of cf lf bg og cg lg w hS hS' false (vR g) (vR_no hf) rfl (.inl rfl)
end Go.Proofs.Ytmjdolgcgbiajaa
