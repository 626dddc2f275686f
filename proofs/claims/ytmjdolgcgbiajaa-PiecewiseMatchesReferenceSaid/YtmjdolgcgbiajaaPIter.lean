/-
  Contract of the iterator that stretches returns.
-/
import Derived.Test.YtmjdolgcgbiajaaPStr2
import Derived.Test.YtmjdolgcgbiajaaPFence
namespace Go.Proofs.Ytmjdolgcgbiajaa
open Go.RowKit Go.Shelf Pw

attribute [local go_sem] Oper.semAt_some

theorem SlP.belowN {w w1 : World} {p : Option Addr} {b off len B : Nat} {l : List RP} (h : SlP w p b off len l) (hb : 0 < len → b < B) (hB : RowKit.Below B w w1) : SlP w1 p b off len l :=
  ⟨h.ln, h.ptr, fun k hk => by
    have hb := hb (by have := h.ln; omega)
    obtain ⟨c0, c1, c2, c3, c4⟩ := h.cells k hk
    exact ⟨(hB.cell (p := ⟨b, off + k * 5, none⟩) hb).trans c0, (hB.cell (p := ⟨b, off + k * 5 + 1, none⟩) hb).trans c1, (hB.cell (p := ⟨b, off + k * 5 + 2, none⟩) hb).trans c2, (hB.cell (p := ⟨b, off + k * 5 + 3, none⟩) hb).trans c3, (hB.cell (p := ⟨b, off + k * 5 + 4, none⟩) hb).trans c4⟩,
    fun x => Nat.lt_of_lt_of_le (h.lt x) hB.size, h.max, h.num⟩

open Classical in
/-- A stretch, whatever is handed over. -/
noncomputable def fix (s : ST) : ST := if s.Ok then s else ⟨0, 1, ⟨0, 0, 1⟩, ⟨0, 0, 1⟩⟩
theorem fix_ok (s : ST) : (fix s).Ok := by
  unfold fix
  split
  · assumption
  · exact ⟨by simp, by simp, by simp, ⟨by simp, by simp, by simp, by simp⟩, ⟨by simp, by simp, by simp, by simp⟩⟩
theorem fix_eq {s : ST} (h : s.Ok) : fix s = s := by unfold fix; rw [if_pos h]

/-- What the iterator's memory is: the range, and both slices in their boxes. -/
structure ItMem (w : World) (n₀ B1 B2 B3 : Nat) (lo hi : Int) (f g : List RP) (pf pg : Option Addr) (bf bg of og lf lg cf cg : Nat) : Prop where
  c0 : w.cell? ⟨B1, 0, none⟩ = some (.int .i64 lo)
  c1 : w.cell? ⟨B1, 1, none⟩ = some (.int .i64 hi)
  c2 : w.cell? ⟨B2, 0, none⟩ = some (.slice pf lf cf)
  c3 : w.cell? ⟨B3, 0, none⟩ = some (.slice pg lg cg)
  sf : SlP w pf bf of lf f
  sg : SlP w pg bg og lg g
  bf : 0 < lf → bf < n₀
  bg : 0 < lg → bg < n₀
/-- What a round keeps. -/
def KpB (n₀ B1 B2 B3 : Nat) (W W' : World) : Prop := RowKit.Below n₀ W W' ∧ (∀ b, b = B1 ∨ b = B2 ∨ b = B3 → W'.heap[b]? = W.heap[b]?)
theorem KpB.trans {n₀ B1 B2 B3 : Nat} {A B C : World} (h : KpB n₀ B1 B2 B3 A B) (k : KpB n₀ B1 B2 B3 B C) : KpB n₀ B1 B2 B3 A C := ⟨h.1.trans k.1, fun b hb => (k.2 b hb).trans (h.2 b hb)⟩
theorem ItMem.keep {w w' : World} {n₀ B1 B2 B3 : Nat} {lo hi : Int} {f g : List RP} {pf pg : Option Addr} {bf bg of og lf lg cf cg : Nat} (h : ItMem w n₀ B1 B2 B3 lo hi f g pf pg bf bg of og lf lg cf cg) (k : KpB n₀ B1 B2 B3 w w') :
    ItMem w' n₀ B1 B2 B3 lo hi f g pf pg bf bg of og lf lg cf cg :=
  ⟨(World.cell?_of_block (k.2 B1 (.inl rfl))).trans h.c0, (World.cell?_of_block (k.2 B1 (.inl rfl))).trans h.c1, (World.cell?_of_block (k.2 B2 (.inr (.inl rfl)))).trans h.c2, (World.cell?_of_block (k.2 B3 (.inr (.inr rfl)))).trans h.c3,
    h.sf.belowN h.bf k.1, h.sg.belowN h.bg k.1, h.bf, h.bg⟩
theorem ItMem.lt {w : World} {n₀ B1 B2 B3 : Nat} {lo hi : Int} {f g : List RP} {pf pg : Option Addr} {bf bg of og lf lg cf cg : Nat} (h : ItMem w n₀ B1 B2 B3 lo hi f g pf pg bf bg of og lf lg cf cg) : B1 < w.heap.size ∧ B2 < w.heap.size ∧ B3 < w.heap.size :=
  ⟨World.block_lt_of_cell? _ _ h.c0, World.block_lt_of_cell? _ _ h.c2, World.block_lt_of_cell? _ _ h.c3⟩
theorem ItMem.kp {w w' : World} {n₀ B1 B2 B3 : Nat} {lo hi : Int} {f g : List RP} {pf pg : Option Addr} {bf bg of og lf lg cf cg : Nat} (h : ItMem w n₀ B1 B2 B3 lo hi f g pf pg bf bg of og lf lg cf cg) (hn : n₀ ≤ w.heap.size) (k : RowKit.Below w.heap.size w w') : KpB n₀ B1 B2 B3 w w' :=
  ⟨k.mono hn, fun b hb => k.block b (by have := h.lt; rcases hb with rfl | rfl | rfl <;> omega)⟩
theorem grown_of_below {w w' : World} (h : RowKit.Below w.heap.size w w') : w.grownBy w' none := ⟨h.os, h.tape, h.output, h.size, fun k hk _ => h.block k hk⟩

/-- What a call of yield leaves. -/
def YRes (J Jx : List ST → World → Prop) (Kp : World → World → Prop) (xs : List ST) (W1 : World) (c : Bool) (W' : World) : Prop := (c = true ∧ J xs W' ∧ Kp W1 W') ∨ (c = false ∧ Jx xs W')
theorem line_in (p : RP) (h : wl p = true) (h0 : 0 ≤ p.f) (h1 : p.f ≤ 100000) (m : Nat) (w : World) : CallsIn Fence.wide m Try.prog 34 #[.agg #[.int .i64 p.f, .int .i64 p.vn, .int .i64 p.vd, .int .i64 p.sn, .int .i64 p.sd]] w fun e w' =>
    e = .returned (.agg #[.int .i64 (lnOf p).b, .int .i64 (lnOf p).r, .int .i64 (lnOf p).d]) ∧ RowKit.Below w.heap.size w w' := by
  obtain ⟨k1, k2, k3, k4, k5, k6⟩ := wl_val h
  exact callsIn_wide.2 (lineof_any p.f p.vn p.vd p.sn p.sd w k1.1 k1.2.1 k1.2.2.1 k2 k5 k6 k3.2.2.1 k4 h0 h1)

set_option maxRecDepth 100000 in
set_option maxHeartbeats 4000000 in
theorem iter_stops (n : Nat) (n₀ B1 B2 B3 : Nat) (lo hi : Int) (f g : List RP) (pf pg : Option Addr) (bf bg of og lf lg cf cg N : Nat) (w : World) (hM : ItMem w n₀ B1 B2 B3 lo hi f g pf pg bf bg of og lf lg cf cg)
    (hn₀ : n₀ ≤ w.heap.size) (hf : VR f) (hg : VR g) (h0 : 0 ≤ lo) (hlo : lo ≤ 100001) (h1 : hi ≤ 100000) (hN : hi + 1 - lo ≤ N) :
    SeqStopsK Fence.wide n Try.prog 62 #[.pointer (some ⟨B1, 0, none⟩), .pointer (some ⟨B2, 0, none⟩), .pointer (some ⟨B3, 0, none⟩)] (fun x : ST => #[(fix x).V]) (KpB n₀ B1 B2 B3)
      (fun xs => xs = strs f g hi N lo) (fun pre => pre <+: strs f g hi N lo) (strs f g hi N lo).length w := fun l J Jx WS hW hJ hJx hY hJ0 => by
  have hmW := hM.keep (hM.kp hn₀ hW)
  have HM := Lib.hid hmW
  have hnW : n₀ ≤ WS.heap.size := Nat.le_trans hn₀ hW.size
  have HVf := Lib.hid hf
  have HVg := Lib.hid hg
  have HJ := Lib.hid hJ
  have HY := Lib.hid hY
  have hc0 := hmW.c0
  have hc1 := hmW.c1
  clear hM hW hmW hf hg hJ hJx hY
  refine callsIn_of_wp Try.func62 rfl trivial ?_ rfl
  simp only [Try.ntmps62, List.size_toArray, List.length_cons, List.length_nil, Nat.reduceAdd, Nat.reduceSub, Array.replicate_succ, Array.replicate_zero, List.push_toArray, List.append_toArray, List.nil_append, List.cons_append]
  gi_wp2
  gi_loopw [5] (fun s5 wr => ∃ (x : Int) (q : Nat) (pre : List ST), s5 = .int .i64 x ∧ 0 ≤ x ∧ x ≤ 100001 ∧ hi + 1 - x ≤ q ∧ Hid (pre ++ strs f g hi q x = strs f g hi N lo) ∧ J pre wr ∧ Hid (KpB n₀ B1 B2 B3 WS wr)) (fun s5 _ => (100001 - intOf s5).toNat)
  case atStart => exact ⟨lo, N, [], rfl, h0, hlo, by omega, rfl, hJ0, ⟨Below.refl _ _, fun _ _ => rfl⟩⟩
  case round =>
    obtain ⟨x, q, pre, rfl, hx0, hx1, hq, HP, hJs, HK⟩ := hrel
    have hmr := HM.out.keep HK.out
    have HMr := Lib.hid hmr
    have c1 := hmr.c1
    clear hmr
    by_cases hlt : x ≤ hi
    · have hx100 : x ≤ 100000 := by omega
      have hnr : n₀ ≤ wr.heap.size := Nat.le_trans hnW HK.out.1.size
      obtain ⟨lt1, lt2, lt3⟩ := HMr.out.lt
      obtain ⟨q, rfl⟩ : ∃ q', q = q' + 1 := ⟨q - 1, by omega⟩
      have okS := Lib.hid (stA_ok HVf.out HVg.out hx0 hlt h1)
      have HI1 := Lib.hid (ixO_is HVf.out hx0)
      have HI2 := Lib.hid (ixO_is HVg.out hx0)
      obtain ⟨i, hi1⟩ : ∃ i, i = ixO f x := ⟨_, rfl⟩
      obtain ⟨j, hj1⟩ : ∃ j, j = ixO g x := ⟨_, rfl⟩
      rw [← hi1] at HI1
      rw [← hj1] at HI2
      have E1 := Lib.hid (pR_get HI1.out hi1)
      have E2 := Lib.hid (pR_get HI2.out hj1)
      have EU1 := Lib.hid (show uR f x = endP f i from by unfold uR; rw [hi1])
      have EU2 := Lib.hid (show uR g x = endP g j from by unfold uR; rw [hj1])
      clear hi1 hj1
      have hif : i < 64 := by have := HI1.out.1; have := HVf.out.2.1; omega
      have hjg : j < 64 := by have := HI2.out.1; have := HVg.out.2.1; omega
      have l64 : lf ≤ 64 := by have := HMr.out.sf.ln; have := HVf.out.2.1; omega
      have g64 : lg ≤ 64 := by have := HMr.out.sg.ln; have := HVg.out.2.1; omega
      have l0 := cell_bw lt1 HMr.out.c0
      have l1 := cell_bw lt1 HMr.out.c1
      have l2 := cell_bw lt2 HMr.out.c2
      have l3 := cell_bw lt3 HMr.out.c3
      have K1 : Hid (∀ p : Bw wr, Calls Try.prog 35 #[.slice pf lf cf, .int .i64 x] p.w' fun e w' => e = .returned (.int .i64 i) ∧ RowKit.Below p.w'.heap.size p.w' w') := fun p => indexat_any f pf bf of cf lf i x p.w' (HMr.out.sf.below p.h) HI1.out (by omega)
      have K2 : Hid (∀ p : Bw wr, Calls Try.prog 35 #[.slice pg lg cg, .int .i64 x] p.w' fun e w' => e = .returned (.int .i64 j) ∧ RowKit.Below p.w'.heap.size p.w' w') := fun p => indexat_any g pg bg og cg lg j x p.w' (HMr.out.sg.below p.h) HI2.out (by omega)
      gi_wp2
      refine wpIn_wide.2 ?_
      refine wp_region_bw mixed (by kernel_rfl) ?_
      repeat (go_big_quiet_step ((first | (with_reducible refine Calls.bw_of (K1.out _)) | (with_reducible refine Calls.bw_of (K2.out _)))))
      refine wpQuiet_nil ?_
      intro W HW
      replace HW := bw_out HW
      have hJ2 := HJ.out _ _ _ none hJs (grown_of_below HW) (fun r e => by cases e)
      have HM2 := Lib.hid (HMr.out.keep (HMr.out.kp hnr HW))
      have HK2 := Lib.hid (HK.out.trans (HMr.out.kp hnr HW))
      obtain ⟨lt1', lt2', lt3'⟩ := HM2.out.lt
      have hnr2 : n₀ ≤ W.heap.size := Nat.le_trans hnW HK2.out.1.size
      have m1 := cell_bw lt1' HM2.out.c1
      have m2 := cell_bw lt2' HM2.out.c2
      have m3 := cell_bw lt3' HM2.out.c3
      have L1 : Hid (∀ p : Bw W, Calls Try.prog 63 #[.slice pf lf cf, .int .i64 i] p.w' fun e w' => e = .returned (.int .i64 (endP f i)) ∧ RowKit.Below p.w'.heap.size p.w' w') := fun p => (endof_any f pf bf of cf lf i p.w' (HM2.out.sf.below p.h) (by omega)).mono fun e w' h => ⟨h.1, by rw [h.2]; exact Below.refl _ _⟩
      have L2 : Hid (∀ p : Bw W, Calls Try.prog 63 #[.slice pg lg cg, .int .i64 j] p.w' fun e w' => e = .returned (.int .i64 (endP g j)) ∧ RowKit.Below p.w'.heap.size p.w' w') := fun p => (endof_any g pg bg og cg lg j p.w' (HM2.out.sg.below p.h) (by omega)).mono fun e w' h => ⟨h.1, by rw [h.2]; exact Below.refl _ _⟩
      obtain ⟨U1, hU1⟩ : ∃ U1, U1 = endP f i := ⟨_, rfl⟩
      obtain ⟨U2, hU2⟩ : ∃ U2, U2 = endP g j := ⟨_, rfl⟩
      rw [← hU1] at L1 EU1
      rw [← hU2] at L2 EU2
      clear hU1 hU2 l0 l1 l2 l3 c1 K1 K2 hJs HW
      have hub := Lib.hid (uR_is HVf.out hx0 hx100)
      have hub2 := Lib.hid (uR_is HVg.out hx0 hx100)
      rw [EU1.out] at hub
      rw [EU2.out] at hub2
      have hu1a := hub.out.1
      have hu1b := hub.out.2.1
      have hu2a := hub2.out.1
      have hu2b := hub2.out.2.1
      have hw1 : IntKind.i64.wrap (hi + 1) = hi + 1 := IntWalk.i64_in _ (by omega)
      gi_wp2
      refine wpIn_wide.2 ?_
      refine wp_region_bw mixed (by kernel_rfl) ?_
      repeat (go_big_quiet_step ((first | (with_reducible refine Calls.bw_of (L1.out _)) | (with_reducible refine Calls.bw_of (L2.out _)))))
      refine wpQuiet_nil ?_
      intro W HW
      replace HW := bw_out HW
      obtain ⟨U, hU⟩ : ∃ U, (if hi + 1 < if U2 < U1 then U2 else U1 then hi + 1 else if U2 < U1 then U2 else U1) = U := ⟨_, rfl⟩
      rw [hU]
      have hUs : (stA f g hi x).u = U := by
        rw [← hU]
        unfold stA
        simp only
        rw [EU1.out, EU2.out]
        repeat' split
        all_goals omega
      have HM3 := Lib.hid (HM2.out.keep (HM2.out.kp hnr2 HW))
      have HK3 := Lib.hid (HK2.out.trans (HM2.out.kp hnr2 HW))
      have hJ3 := HJ.out _ _ _ none hJ2 (grown_of_below HW) (fun r e => by cases e)
      obtain ⟨lt1a, lt2a, lt3a⟩ := HM3.out.lt
      have hnr3 : n₀ ≤ W.heap.size := Nat.le_trans hnW HK3.out.1.size
      have hil : i < f.length := HI1.out.1
      have hjl : j < g.length := HI2.out.1
      obtain ⟨a0, a1, a2, a3, a4⟩ := HM3.out.sf.cells i hil
      obtain ⟨d0, d1, d2, d3, d4⟩ := HM3.out.sg.cells j hjl
      have ba := HM3.out.sf.lt (by have := HM3.out.sf.ln; omega)
      have bd := HM3.out.sg.lt (by have := HM3.out.sg.ln; omega)
      have e2 := HM3.out.c2
      have e3 := HM3.out.c3
      have w1 := HVf.out.wl (List.getElem_mem hil)
      have w2 := HVg.out.wl (List.getElem_mem hjl)
      have KL := Lib.hid (line_in f[i] w1.1 w1.2.1 w1.2.2)
      have KR := Lib.hid (line_in g[j] w2.1 w2.2.1 w2.2.2)
      have HYY : Hid (∀ W1, J pre W1 → YieldAt Fence.wide (n - 1) Try.prog l #[.agg #[.int .i64 x, .int .i64 U, .int .i64 (lnOf f[i]).b, .int .i64 (lnOf f[i]).r, .int .i64 (lnOf f[i]).d, .int .i64 (lnOf g[j]).b, .int .i64 (lnOf g[j]).r, .int .i64 (lnOf g[j]).d]] W1
          fun e W' => ∃ c, e = .returned (.bool c) ∧ YRes J Jx (KpB n₀ B1 B2 B3) (pre ++ [stA f g hi x]) W1 c W') := fun W1 hj => by
        have hlen : pre.length < (strs f g hi N lo).length := by
          rw [← HP.out, strs, if_pos hlt, List.length_append, List.length_cons]; omega
        have hy := HY.out pre (stA f g hi x) W1 hj hlen
        have ev : (fix (stA f g hi x)).V = .agg #[.int .i64 x, .int .i64 U, .int .i64 (lnOf f[i]).b, .int .i64 (lnOf f[i]).r, .int .i64 (lnOf f[i]).d, .int .i64 (lnOf g[j]).b, .int .i64 (lnOf g[j]).r, .int .i64 (lnOf g[j]).d] := by
          rw [fix_eq okS.out]
          unfold ST.V
          rw [hUs]
          unfold stA
          simp only
          rw [E1.out, E2.out]
        rw [ev] at hy
        refine hy.mono fun e W' h => ?_
        rcases h with ⟨rfl, h⟩ | ⟨rfl, h⟩
        · exact ⟨true, rfl, .inl ⟨rfl, h⟩⟩
        · exact ⟨false, rfl, .inr ⟨rfl, h⟩⟩
      have HUS := Lib.hid hUs
      clear hUs hU m1 m2 m3 L1 L2 hJ2 hu1a hu1b hu2a hu2b hw1 lt1' lt2' lt3' hnr2 HM2 HK2 w1 w2 lt1 lt2 lt3
      generalize lnOf f[i] = LA at *
      generalize lnOf g[j] = LB at *
      generalize f[i].f = p0 at *
      generalize f[i].vn = p1 at *
      generalize f[i].vd = p2 at *
      generalize f[i].sn = p3 at *
      generalize f[i].sd = p4 at *
      generalize g[j].f = q0 at *
      generalize g[j].vn = q1 at *
      generalize g[j].vd = q2 at *
      generalize g[j].sn = q3 at *
      generalize g[j].sd = q4 at *
      have hiz : (i : Int) < (lf : Int) := by have := HM3.out.sf.ln; omega
      have hjz : (j : Int) < (lg : Int) := by have := HM3.out.sg.ln; omega
      have hpf := HM3.out.sf.ptr (by omega)
      have hpg := HM3.out.sg.ptr (by omega)
      rw [hpf] at e2
      rw [hpg] at e3
      clear hpf hpg
      have hmx := mixed
      gi_wp2
      have hfn : ∀ k, Fence.wide.fn k = True := fun _ => rfl
      have hdp : Fence.wide.depth.isSome = false := rfl
      gi_region_with_o (first
        | (gi_at_call 34; with_reducible refine (KL.out _ _).mono ?_; rintro _ w1 ⟨rfl, hb1⟩
           have e3 := (hb1.cell (p := ⟨B3, 0, none⟩) lt3a).trans e3
           have d0 := (hb1.cell (p := ⟨bg, og + j * 5, none⟩) bd).trans d0
           have d1 := (hb1.cell (p := ⟨bg, og + j * 5 + 1, none⟩) bd).trans d1
           have d2 := (hb1.cell (p := ⟨bg, og + j * 5 + 2, none⟩) bd).trans d2
           have d3 := (hb1.cell (p := ⟨bg, og + j * 5 + 3, none⟩) bd).trans d3
           have d4 := (hb1.cell (p := ⟨bg, og + j * 5 + 4, none⟩) bd).trans d4
           have hB1 := Lib.hid (show RowKit.Below W.heap.size W w1 from ((Below.refl _ W).drew).trans hb1))
        | (gi_at_call 34; with_reducible refine (KR.out _ _).mono ?_; rintro _ w2 ⟨rfl, hb2⟩
           have hB2 := Lib.hid (hB1.out.trans (hb2.mono hB1.out.size))
           obtain ⟨fn, tmps, assign, body, hy, hR⟩ := HYY.out w2 (HJ.out _ _ _ none hJ3 (grown_of_below hB2.out) (fun r e => by cases e)))
        | (refine hR.mono ?_; rintro _ w3 ⟨c, rfl, hres⟩
           have HRes := Lib.hid hres
           clear hres hR hy))
      all_goals
        rcases HRes.out with ⟨rfl, hJ4, hK4⟩ | ⟨rfl, hx4⟩
        · have HK5 := Lib.hid ((HK3.out.trans (HM3.out.kp hnr3 hB2.out)).trans hK4)
          have HP2 := Lib.hid (show (pre ++ [stA f g hi x]) ++ strs f g hi q U = strs f g hi N lo from by
            rw [← HP.out, strs, if_pos hlt, HUS.out, List.append_assoc]; rfl)
          have hUb : x < U ∧ U ≤ 100001 := by have h1 := okS.out.fu; have h2 := okS.out.u1; rw [HUS.out] at h1 h2; exact ⟨h1, h2⟩
          clear HRes hK4 e2 e3 a0 a1 a2 a3 a4 d0 d1 d2 d3 d4
          gi_wp2
          go_roundw
          case rel => exact ⟨U, q, pre ++ [stA f g hi x], rfl, by omega, hUb.2, by omega, HP2.out, hJ4, HK5.out⟩
          case measure => simp [intOf]; omega
        · have HPre := Lib.hid (show pre ++ [stA f g hi x] <+: strs f g hi N lo from ⟨strs f g hi q U, by
            rw [← HP.out, strs, if_pos hlt, HUS.out, List.append_assoc]; rfl⟩)
          clear HRes e2 e3 a0 a1 a2 a3 a4 d0 d1 d2 d3 d4
          gi_wp2
          refine bodyPost_ret (results_none rfl _ _ _) rfl ?_
          exact ⟨⟨_, rfl⟩, .inr ⟨pre ++ [stA f g hi x], HPre.out, hx4⟩⟩
    · have eq : strs f g hi q x = [] := by cases q with | zero => rfl | succ q => rw [strs, if_neg hlt]
      gi_wp2
      go_end0
      exact ⟨⟨_, rfl⟩, .inl (by have := HP.out; rw [eq, List.append_nil] at this; rw [← this]; exact hJs)⟩
end Go.Proofs.Ytmjdolgcgbiajaa
