/-
  Contract of Scale.
-/
import Derived.Test.YtmjdolgcgbiajaaPAt
import Derived.Test.YtmjdolgcgbiajaaPRefD
namespace Go.Proofs.Ytmjdolgcgbiajaa
open Go.RowKit Go.Shelf Pw

/-- Scale of a function and a number. -/
def scaleR (f : List RP) (rn rd : Int) : List RP × Int := ((scaleA (AA f) (fr rn rd)).1.map toRP, (scaleA (AA f) (fr rn rd)).2)
open Classical in
noncomputable def scaV (f : List RP) (rn rd : Int) : List RP × Int := if VR f ∧ vld rn rd = true then scaleR f rn rd else ([], 1)
def secP (p : RP) : SP := secAt p.f (lnOf p)
theorem secP_ok {p : RP} (h : wl p = true ∧ 0 ≤ p.f ∧ p.f ≤ 100000) : (secP p).Ok := secAt_ok (lnOf_ok h.1 h.2.1 h.2.2) h.2.1 h.2.2
theorem secP_A {p : RP} (h : wl p = true ∧ 0 ≤ p.f ∧ p.f ≤ 100000) : (secP p).A = toAP p := by
  obtain ⟨h1, h2⟩ := lnOf_at h.1 p.f
  show (⟨p.f, (lnOf p).at p.f, (lnOf p).s⟩ : AP) = toAP p
  rw [h1, h2]
  have : (toAP p).at p.f = (toAP p).v := AP.at_self (toAP p)
  rw [this]
  rfl
/-- The pieces that are checked. -/
theorem scale_is {F : List RP} (h : ∀ p, p ∈ F → wl p = true ∧ 0 ≤ p.f ∧ p.f ≤ 100000) (r : Rat) : chR ((redS (F.map secP)).map fun s => rpO (mulH r s.A)) = ((chk ((red (AA F)).map (mulH r))).1.map toRP, (chk ((red (AA F)).map (mulH r))).2) := by
  have e : (F.map secP).map SP.A = AA F := by
    unfold AA
    rw [List.map_map]
    exact List.map_congr_left fun p hp => secP_A (h p hp)
  have e2 := redS_A (l := F.map secP) (fun s hs => by
    obtain ⟨p, hp, rfl⟩ := List.mem_map.1 hs
    exact (secP_ok (h p hp)).2.2.2.2.1)
  rw [e] at e2
  rw [← e2, ← chR_map, List.map_map, List.map_map]
  rfl

set_option maxRecDepth 100000 in
set_option maxHeartbeats 1000000 in
theorem scale_bad (f : List RP) (pf : Option Addr) (bf of cf lf : Nat) (rn rd : Int) (w : World) (hS : SlP w pf bf of lf f) (b1 b2 : Bool) (hv : vR f = b1) (hr : vld rn rd = b2) (hx : b1 = false ∨ b1 = true ∧ b2 = false) (i1 : In64 rn) (i2 : In64 rd) :
    Calls Try.prog 19 #[.slice pf lf cf, .agg #[.int .i64 rn, .int .i64 rd]] w fun e w' => OutP (RowKit.Below w.heap.size w) [] 1 e w' := by
  have K := Lib.hid (fun w' (h : RowKit.Below w.heap.size w w') => valid_sl f pf bf of cf lf w' (hS.below h))
  have KV := Lib.hid (fun w' => valid_any rn rd w' i1.1 i1.2 i2.1 i2.2)
  rw [hv] at K
  rw [hr] at KV
  clear hS hv hr i1 i2
  rcases hx with rfl | ⟨rfl, rfl⟩
  · go_enter Try.func19, Try.ntmps19
    go_wp2_with fail
    refine (K.out _ ((Below.refl _ w).alloc (Nat.le_refl _) _)).mono ?_
    rintro _ w1 ⟨rfl, hb⟩
    have HB := Lib.hid (((Below.refl _ w).alloc (Nat.le_refl _) (.cells #[.int .i64 rn, .int .i64 rd] 24)).trans (hb.mono (by simp)))
    clear hb
    go_wp2
    go_ret2
    exact OutP.bad HB.out
  · go_enter Try.func19, Try.ntmps19
    go_wp2_with fail
    refine (K.out _ ((Below.refl _ w).alloc (Nat.le_refl _) _)).mono ?_
    rintro _ w1 ⟨rfl, hb⟩
    have HB := Lib.hid (((Below.refl _ w).alloc (Nat.le_refl _) (.cells #[.int .i64 rn, .int .i64 rd] 24)).trans (hb.mono (by simp)))
    obtain ⟨c0, c1, f0, f1⟩ := (At2.new w (.int .i64 rn) (.int .i64 rd) 24).below hb (by simp)
    clear hb
    go_wp2_with fail
    refine (KV.out _).mono ?_
    rintro _ w2 ⟨rfl, hb⟩
    have HB2 := Lib.hid (HB.out.trans (hb.mono HB.out.size))
    clear hb c0 c1 f0 f1
    go_wp2
    go_ret2
    exact OutP.bad HB2.out

theorem wp_region_dr {P : Program} {ops : Array Oper} {Q : Exit → Act → World → Prop} {id : Nat} {a : Act} {w : World} (hm : P.follows .mixedOrders = true)
    (h : wpAny P .any ops Q ops.size (Array.replicate ops.size false) a w.drew) : (Code.region id ops true).wp P Q a w := wp_region_any hm h
/-- A number in its box. -/
def RtB (W : World) (b : Nat) (rn rd : Int) : Prop := W.heap[b]? = some (.cells #[.int .i64 rn, .int .i64 rd] 24 (0, 0))
theorem RtB.all {W : World} {b : Nat} {rn rd : Int} (h : RtB W b rn rd) : W.cell? ⟨b, 0, none⟩ = some (.int .i64 rn) ∧ W.cell? ⟨b, 1, none⟩ = some (.int .i64 rd) := by
  unfold RtB at h
  refine ⟨?_, ?_⟩ <;> simp [World.cell?, h]
theorem RtB.below {W W' : World} {b B : Nat} {rn rd : Int} (h : RtB W b rn rd) (hb : b < B) (k : RowKit.Below B W W') : RtB W' b rn rd := (k.block b hb).trans h

/-- A block of another type lies as it lay behind an append onto the sections. -/
theorem blk_grownS {W w1 : World} {n₀ b : Nat} {cs : Array Value} {T : TypeId} {v : Value} {L : List SP} (h : W.heap[b]? = some (.cells cs T (0, 0))) (hT : T ≠ 71) (hrow : OwnS W n₀ v L) (hg : W.grownBy w1 v.ownBlock) :
    w1.heap[b]? = some (.cells cs T (0, 0)) := by
  rw [hg.block b (Array.getElem?_eq_some_iff.1 h).1 fun e => ?_]
  · exact h
  · rcases hrow.2 with ⟨rfl, _⟩ | ⟨g, cap, cur, rfl, _, hgb, _⟩
    · cases e
    · obtain rfl : b = g := by simpa [Value.ownBlock] using e
      rw [h] at hgb
      injection hgb with h1
      injection h1 with _ h2
      exact hT h2
theorem blk_grownP {W w1 : World} {n₀ b : Nat} {cs : Array Value} {T : TypeId} {v : Value} {L : List RP} (h : W.heap[b]? = some (.cells cs T (0, 0))) (hT : T ≠ 51) (hrow : OwnP W n₀ v L) (hg : W.grownBy w1 v.ownBlock) :
    w1.heap[b]? = some (.cells cs T (0, 0)) := by
  rw [hg.block b (Array.getElem?_eq_some_iff.1 h).1 fun e => ?_]
  · exact h
  · rcases hrow.2 with ⟨rfl, _⟩ | ⟨g, cap, cur, rfl, _, hgb, _⟩
    · cases e
    · obtain rfl : b = g := by simpa [Value.ownBlock] using e
      rw [h] at hgb
      injection hgb with h1
      injection h1 with _ h2
      exact hT h2
theorem rpO_inA {s : SP} {r : Rat} (h : s.Ok) : (rpO (mulH r s.A)).In := by
  have bN : ∀ x : Rat, In64 (mkN x) := fun x => by
    unfold mkN In64
    split
    · rename_i h; have := okR_val.1 h; have h1 := this.1; have h2 := this.2.1; omega
    · omega
  have bD : ∀ x : Rat, In64 (mkD x) := fun x => by
    unfold mkD In64
    split
    · rename_i h; have := okR_val.1 h; have h1 := this.2.2.1; have h2 := this.2.2.2.1; omega
    · omega
  exact ⟨by have h1 := h.1; have h2 := h.2.1; unfold rpO mulH SP.A In64; simp only; omega, bN _, bD _, bN _, bD _⟩
/-- A section in its box. -/
def ScB (W : World) (b : Nat) (s : SP) : Prop := W.heap[b]? = some (.cells #[.int .i64 s.f, .int .i64 s.b, .int .i64 s.r, .int .i64 s.d] 71 (0, 0))
theorem ScB.all {W : World} {b : Nat} {s : SP} (h : ScB W b s) : W.cell? ⟨b, 0, none⟩ = some (.int .i64 s.f) ∧ W.cell? ⟨b, 1, none⟩ = some (.int .i64 s.b) ∧ W.cell? ⟨b, 2, none⟩ = some (.int .i64 s.r) ∧ W.cell? ⟨b, 3, none⟩ = some (.int .i64 s.d) := by
  unfold ScB at h
  refine ⟨?_, ?_, ?_, ?_⟩ <;> simp [World.cell?, h]
theorem ScB.below {W W' : World} {b : Nat} {s : SP} (h : ScB W b s) (k : RowKit.Below W.heap.size W W') : ScB W' b s := (k.block b (Array.getElem?_eq_some_iff.1 h).1).trans h

set_option maxRecDepth 100000 in
set_option maxHeartbeats 4000000 in
theorem scale_yes (f F : List RP) (pf : Option Addr) (bf of cf lf n : Nat) (rn rd : Int) (w : World) (hS : SlP w pf bf of lf f) (hc : lf ≤ cf) (hF : (¬ rn = 0 ∧ n = lf ∧ F = f) ∨ (rn = 0 ∧ n = 1 ∧ F = f.take 1)) (hv : VR f) (hr : Q.Val rn rd) :
    Calls Try.prog 19 #[.slice pf lf cf, .agg #[.int .i64 rn, .int .i64 rd]] w fun e w' => OutP (RowKit.Below w.heap.size w) (chR ((redS (F.map secP)).map fun s => rpO (mulH (fr rn rd) s.A))).1 (chR ((redS (F.map secP)).map fun s => rpO (mulH (fr rn rd) s.A))).2 e w' := by
  have K := Lib.hid (fun w' (h : RowKit.Below w.heap.size w w') => valid_sl f pf bf of cf lf w' (hS.below h))
  have KV := Lib.hid (fun w' => valid_any rn rd w' (by have := hr.1; omega) (by have := hr.2.1; omega) (by have := hr.2.2.1; omega) (by have := hr.2.2.2.1; omega))
  rw [vR_iff.2 hv] at K
  rw [(vld_iff rn rd).2 hr] at KV
  have hl0 := hv.1
  have hl := hS.ln
  have hm := hS.max
  have hl64 := hv.2.1
  have hFm : ∀ p, p ∈ F → p ∈ f := by
    rintro p hp
    rcases hF with ⟨_, _, rfl⟩ | ⟨_, _, rfl⟩
    · exact hp
    · exact List.mem_of_mem_take hp
  have hFS : SlP w pf bf of n F := by
    rcases hF with ⟨_, rfl, rfl⟩ | ⟨_, rfl, rfl⟩
    · exact hS
    · refine ⟨by rw [List.length_take]; omega, fun _ => hS.ptr (by omega), fun k hk => ?_, fun _ => hS.lt (by omega), by omega, fun s hs => hS.num s (List.mem_of_mem_take hs)⟩
      rw [List.length_take] at hk
      rw [List.getElem_take]
      exact hS.cells k (by omega)
  have HW := Lib.hid (fun p (hp : p ∈ F) => hv.wl (hFm p hp))
  have HFS := Lib.hid hFS
  have HFL := Lib.hid hFS.ln
  have hn1 : 1 ≤ n ∧ n ≤ 64 ∧ n ≤ lf := by rcases hF with ⟨_, rfl, _⟩ | ⟨_, rfl, _⟩ <;> omega
  have hp := hS.ptr (by omega)
  have HR := Lib.hid hr
  have HN1 := Lib.hid hn1
  subst hp
  have hcase : (¬ rn = 0 ∧ n = lf) ∨ (rn = 0 ∧ n = 1) := hF.elim (fun h => .inl ⟨h.1, h.2.1⟩) (fun h => .inr ⟨h.1, h.2.1⟩)
  have hlf1 : (1 : Int) ≤ (lf : Int) := by omega
  clear hF hS hFS hv hr hFm
  obtain ⟨L, hL⟩ : ∃ L, L = F.map secP := ⟨_, rfl⟩
  obtain ⟨R, hR⟩ : ∃ R, R = redS L := ⟨_, rfl⟩
  rw [← hL, ← hR]
  have HLL := Lib.hid hL
  have HRR := Lib.hid hR
  clear hL hR
  go_enter Try.func19, Try.ntmps19
  go_wp2_with fail
  refine (K.out _ ((Below.refl _ w).alloc (Nat.le_refl _) _)).mono ?_
  rintro _ w1 ⟨rfl, hb⟩
  have HB := Lib.hid (((Below.refl _ w).alloc (Nat.le_refl _) (.cells #[.int .i64 rn, .int .i64 rd] 24)).trans (hb.mono (by simp)))
  have HT : Hid (RtB w1 w.heap.size rn rd) := by
    show _ = _
    exact (hb.block _ (by simp)).trans (World.alloc_heap_new w _)
  have hz1 : w.heap.size < w1.heap.size := by have := hb.size; simp at this; omega
  clear hb
  obtain ⟨c0, c1⟩ := HT.out.all
  go_wp2_with fail
  refine (KV.out _).mono ?_
  rintro _ w2 ⟨rfl, hb⟩
  have HB2 := Lib.hid (HB.out.trans (hb.mono HB.out.size))
  have HT2 := Lib.hid (HT.out.below hz1 hb)
  have hz2 : w.heap.size < w2.heap.size := Nat.lt_of_lt_of_le hz1 hb.size
  clear hb c0 c1 HT HB K KV
  obtain ⟨c0, c1⟩ := HT2.out.all
  obtain ⟨hrn, rfl⟩ | ⟨rfl, rfl⟩ := hcase
  · have hrb : (rn == 0) = false := by simpa using hrn
    clear hrn
    go_wp2_with fail
    go_loopg [6, 27] n (fun q s6 s27 wr => ∃ k : Nat, s27 = .int .i64 k ∧ k ≤ n ∧ n - k ≤ q ∧ Hid (RowKit.Below w2.heap.size w2 wr) ∧ Hid (OwnS wr w2.heap.size s6 ((F.take k).map secP)))
    case atStart => exact ⟨0, rfl, by omega, by omega, Below.refl _ _, OwnS.empty _ _⟩
    case round =>
      obtain ⟨k, rfl, hk, hkq, HBr, HO⟩ := hrel
      clear c0 c1
      by_cases hlt : k < n
      · have hltz : (k : Int) < ((n : Nat) : Int) := by omega
        have hkl : k < F.length := by rw [HFL.out]; exact hlt
        have HS1 := Lib.hid (HFS.out.below (HB2.out.trans (HBr.out.mono (Nat.le_of_lt hz2))))
        obtain ⟨x0, x1, x2, x3, x4⟩ := HS1.out.cells k hkl
        have KQ := Lib.hid (fun w => lineof_wl (HW.out F[k] (List.getElem_mem hkl)) w)
        have HTk := Lib.hid (show (F.take (k + 1)).map secP = (F.take k).map secP ++ [secP F[k]] from by
          rw [List.take_succ_eq_append_getElem hkl, List.map_append]; rfl)
        have HTL := Lib.hid (show ((F.take k).map secP).length ≤ 64 from by have := HN1.out; rw [List.length_map, List.length_take]; omega)
        obtain ⟨X, hX⟩ : ∃ X, X = F[k] := ⟨_, rfl⟩
        rw [← hX] at x0 x1 x2 x3 x4 KQ HTk
        clear hX
        go_wp2_with fail
        refine wp_region_dr mixed ?_
        obtain ⟨WA, hWA⟩ : ∃ WA, WA = wr.alloc (.cells #[.int .i64 X.f, .int .i64 X.vn, .int .i64 X.vd, .int .i64 X.sn, .int .i64 X.sd] 51) := ⟨_, rfl⟩
        rw [← hWA]
        have bA : PcB WA wr.heap.size X := by rw [hWA]; exact World.alloc_heap_new wr _
        have hBA : RowKit.Below w2.heap.size w2 WA := by rw [hWA]; exact HBr.out.alloc HBr.out.size _
        have hOA := HO.out.alloc (.cells #[.int .i64 X.f, .int .i64 X.vn, .int .i64 X.vd, .int .i64 X.sn, .int .i64 X.sd] 51)
        rw [← hWA] at hOA
        have hd : RowKit.Below WA.heap.size WA WA.drew := (Below.refl _ WA).drew
        have b1 := bA.below hd
        have hO1 := hOA.below hd
        have hB1 := hBA.trans (hd.mono hBA.size)
        have hS1 := b1.all
        have hz3 := hB1.size
        generalize WA.drew = W1 at *
        clear hWA bA hBA hOA hd x0 x1 x2 x3 x4
        refine wpAny_of_held (S := (fun w => w.cell? ⟨wr.heap.size, 0, none⟩ = some (.int .i64 X.f) ∧ w.cell? ⟨wr.heap.size, 1, none⟩ = some (.int .i64 X.vn) ∧ w.cell? ⟨wr.heap.size, 2, none⟩ = some (.int .i64 X.vd) ∧ w.cell? ⟨wr.heap.size, 3, none⟩ = some (.int .i64 X.sn) ∧ w.cell? ⟨wr.heap.size, 4, none⟩ = some (.int .i64 X.sd))) _ _ _ _ ?_
        refine tk0 (v := ?_) (by kernel_rfl) (by kernel_rfl) (by kernel_rfl) (fun _ _ _ h => h) (Or.inl ⟨by rfl, ?_⟩) hS1 ?_
        rotate_left
        · (intro w hSw; (try dsimp only at hSw); go_simp; try with_reducible rfl)
        simp only [Act.put, List.setIfInBounds_toArray, List.set_cons_zero, List.set_cons_succ]
        refine tk1 (v := ?_) (by kernel_rfl) (by kernel_rfl) (by kernel_rfl) (fun _ _ _ h => h) (Or.inl ⟨by rfl, ?_⟩) hS1 ?_
        rotate_left
        · (intro w hSw; (try dsimp only at hSw); go_simp; try with_reducible rfl)
        simp only [Act.put, List.setIfInBounds_toArray, List.set_cons_zero, List.set_cons_succ]
        refine tk2 (v := ?_) (by kernel_rfl) (by kernel_rfl) (by kernel_rfl) (fun _ _ _ h => h) (Or.inl ⟨by rfl, ?_⟩) hS1 ?_
        rotate_left
        · (intro w hSw; (try dsimp only at hSw); go_simp; try with_reducible rfl)
        simp only [Act.put, List.setIfInBounds_toArray, List.set_cons_zero, List.set_cons_succ]
        refine tk3 (v := ?_) (by kernel_rfl) (by kernel_rfl) (by kernel_rfl) (fun _ _ _ h => h) (Or.inl ⟨by rfl, ?_⟩) hS1 ?_
        rotate_left
        · (intro w hSw; (try dsimp only at hSw); go_simp; try with_reducible rfl)
        simp only [Act.put, List.setIfInBounds_toArray, List.set_cons_zero, List.set_cons_succ]
        refine wpAnyH_ready (rs := [4]) (by kernel_rfl) (by simp) (st4 (fun K hK => ?_) AllReadyH.nil)
        go_simp
        refine (KQ.out _).mono ?_
        rintro _ W2 ⟨rfl, hb2⟩
        go_wp2_with fail
        have b2 := b1.below hb2
        have hO2 := hO1.below hb2
        have hB2 := hB1.trans (hb2.mono hB1.size)
        have hz4 := hB2.size
        refine hK.out _ _ ?_ (fun hHeld => ?_)
        · exact b2.all
        clear hK K
        try simp only [Act.put, List.setIfInBounds_toArray, List.set_cons_zero, List.set_cons_succ]
        refine tk5 (v := ?_) (by kernel_rfl) (by kernel_rfl) (by kernel_rfl) (fun _ _ _ h => h) (Or.inl ⟨by rfl, ?_⟩) hHeld ?_
        rotate_left
        · (intro w hSw; (try dsimp only at hSw); go_simp; try with_reducible rfl)
        simp only [Act.put, List.setIfInBounds_toArray, List.set_cons_zero, List.set_cons_succ]
        refine wpAnyH_ready (rs := [6]) (by kernel_rfl) (by simp) (st6 (fun K hK => ?_) AllReadyH.nil)
        go_simp
        have hal := (Below.refl _ W2).alloc (Nat.le_refl _) (.cells #[.int .i64 X.f, .int .i64 (lnOf X).b, .int .i64 (lnOf X).r, .int .i64 (lnOf X).d] 71)
        refine hK.out _ _ ?_ (fun hHeld => ?_)
        · exact (b2.below hal).all
        clear hK K
        try simp only [Act.put, List.setIfInBounds_toArray, List.set_cons_zero, List.set_cons_succ]
        refine wpAnyH_ready (rs := [7]) (by kernel_rfl) (by simp) (st7 (fun K hK => ?_) AllReadyH.nil)
        refine step_appS rfl (.tmp 31) (.tmp 37) rfl w2.heap.size _ _ rfl (hO2.below hal) W2.heap.size 1 (secP X) rfl (OneS.new W2 (secP X) _) (by have := HTL.out; omega) (by simp; omega) (fun v' w' ho hg => ?_)
        have b3 : PcB w' wr.heap.size X := blk_grownS (b2.below hal) (by decide) (hO2.below hal) hg
        have HB5 : Hid (RowKit.Below w2.heap.size w2 w') := (hB2.trans (hal.mono hB2.size)).grown hg (by simp; omega) (hO2.below hal).block
        have HO5 : Hid (OwnS w' w2.heap.size v' ((F.take (k + 1)).map secP)) := by show OwnS _ _ _ _; rw [HTk.out]; exact ho
        refine hK.out _ _ ?_ (fun hHeld => ?_)
        · exact b3.all
        clear hK K
        try simp only [Act.put, List.setIfInBounds_toArray, List.set_cons_zero, List.set_cons_succ]
        refine tk8 (v := ?_) (by kernel_rfl) (by kernel_rfl) (by kernel_rfl) (fun _ _ _ h => h) (Or.inl ⟨by rfl, ?_⟩) hHeld ?_
        rotate_left
        · (intro w hSw; (try dsimp only at hSw); go_simp; try with_reducible rfl)
        simp only [Act.put, List.setIfInBounds_toArray, List.set_cons_zero, List.set_cons_succ]
        refine wpAnyH_done (by kernel_rfl) ?_ _
        clear b3 ho hg hal hO2 hB2 hB1 hO1 b1 b2 hb2
        go_wp2_with fail
        go_roundg (n - (k + 1))
        case measure => omega
        case rel => exact ⟨k + 1, by go_num, by omega, by omega, HB5.out, HO5.out⟩
      · obtain rfl : k = n := by omega
        have hltz : ¬ (k : Int) < (k : Int) := by omega
        have eF : F.take k = F := List.take_of_length_le (by have := HFL.out; omega)
        have hO := HO.out
        rw [eF] at hO
        have hok : ∀ s, s ∈ F.map secP → s.Ok := fun s hs => by
          obtain ⟨p, hp, rfl⟩ := List.mem_map.1 hs
          exact secP_ok (HW.out p hp)
        have HWA : Hid (∀ s, s ∈ redS (F.map secP) → wl (rpO s.A) = true ∧ toAP (rpO s.A) = s.A ∧ s.Ok) := fun s hs => by
          obtain ⟨p, hp, rfl⟩ := List.mem_map.1 (redS_sub hs)
          have hw := HW.out p hp
          rw [secP_A hw, rpO_ok (lim_toAP hw.1), back hw.1]
          exact ⟨hw.1, rfl, secP_ok hw⟩
        have hLn : (F.map secP).length = k := by rw [List.length_map]; exact HFL.out
        have hk := HN1.out
        rw [← HLL.out] at hO hok HWA hLn
        rw [← HRR.out] at HWA
        clear eF HO
        have hO0 := hO
        rcases hO.2 with ⟨rfl, h0⟩ | ⟨g0, cap, cur, rfl, hg0, hgb, _⟩
        · omega
        rw [hLn] at hO0
        have KR := Lib.hid (reduced_any L g0 k cap w2.heap.size wr hO0 hLn hok)
        have HG0 := Lib.hid hg0
        rw [← HRR.out] at KR
        have hRl : R.length ≤ k := by
          rw [HRR.out]
          have : ∀ (l : List SP) (a : SP), (rfS a l).length ≤ l.length := by
            intro l
            induction l with
            | nil => intro a; exact Nat.le_refl _
            | cons b t ih => intro a; rw [rfS]; have := ih b; split <;> simp <;> omega
          rw [← hLn]
          cases L with
          | nil => exact Nat.le_refl _
          | cons a t => have := this t a; simp [redS]; omega
        rw [hLn]
        clear hO hO0 hg0 hgb hok hLn
        go_wp2_with fail
        refine KR.out.mono ?_
        rintro _ w3 ⟨m, rfl, hs, hb⟩
        have HS := Lib.hid hs
        have HM := Lib.hid hs.ln
        have hm64 : m ≤ 64 := by have := hs.ln; omega
        have HT3 : Hid (RtB w3 w.heap.size rn rd) := by
          show _ = _
          exact (hb.block _ (Nat.lt_of_lt_of_le hz2 HBr.out.size) (fun e => by have := HG0.out; have := Option.some.inj e; omega)).trans (HT2.out.below hz2 HBr.out)
        have HB3 := Lib.hid ((HB2.out.trans (HBr.out.mono (Nat.le_of_lt hz2))).trans (hb.below (Nat.le_trans (Nat.le_of_lt hz2) HBr.out.size) (Nat.le_trans (Nat.le_of_lt hz2) HG0.out)))
        have hz3 : w.heap.size < w3.heap.size := Nat.lt_of_lt_of_le (Nat.lt_of_lt_of_le hz2 HBr.out.size) hb.size
        have KP := Lib.hid (fun (k : Nat) (h : k < R.length) (w : World) => piece_any R[k] w (HWA.out _ (List.getElem_mem h)).2.2)
        have KT := Lib.hid (fun (k : Nat) (h : k < R.length) (w : World) => ptimes_any (rpO R[k].A) rn rd w (HWA.out _ (List.getElem_mem h)).1 HR.out)
        unfold SP.V RP.V at KP
        unfold RP.V at KT
        clear hs hb hRl KR
        go_wp2_with fail
        go_loopg [9, 43] m (fun q s9 s43 wr => ∃ k : Nat, s43 = .int .i64 k ∧ k ≤ m ∧ m - k ≤ q ∧ Hid (RowKit.Below w3.heap.size w3 wr) ∧ Hid (OwnP wr w3.heap.size s9 ((R.take k).map fun s => rpO (mulH (fr rn rd) s.A))))
        case atStart => exact ⟨0, rfl, by omega, by omega, Below.refl _ _, OwnP.empty _ _⟩
        case round =>
          obtain ⟨k, rfl, hk, hkq, HBr, HO⟩ := hrel
          by_cases hlt : k < m
          · have hltz : (k : Int) < (m : Int) := by omega
            have hkl : k < R.length := by rw [HM.out]; exact hlt
            have HS1 := Lib.hid (HS.out.below HBr.out)
            obtain ⟨x0, x1, x2, x3⟩ := HS1.out.at hkl
            have KKP := Lib.hid (KP.out k hkl)
            have KKT := Lib.hid (KT.out k hkl)
            have HTk := Lib.hid (show (R.take (k + 1)).map (fun s => rpO (mulH (fr rn rd) s.A)) = (R.take k).map (fun s => rpO (mulH (fr rn rd) s.A)) ++ [rpO (mulH (fr rn rd) R[k].A)] from by
              rw [List.take_succ_eq_append_getElem hkl, List.map_append]; rfl)
            have HTL := Lib.hid (show ((R.take k).map fun s => rpO (mulH (fr rn rd) s.A)).length ≤ 64 from by rw [List.length_map, List.length_take]; omega)
            rw [(HWA.out _ (List.getElem_mem hkl)).2.1] at KKT
            obtain ⟨Y, hY⟩ : ∃ Y, Y = rpO (mulH (fr rn rd) R[k].A) := ⟨_, rfl⟩
            obtain ⟨Z, hZ⟩ : ∃ Z, Z = rpO R[k].A := ⟨_, rfl⟩
            rw [← hY] at KKT HTk
            rw [← hZ] at KKP KKT
            clear hY hZ
            obtain ⟨X, hX⟩ : ∃ X, X = R[k] := ⟨_, rfl⟩
            rw [← hX] at x0 x1 x2 x3 KKP
            clear hX
            go_wp2_with fail
            refine wp_region_dr mixed ?_
            obtain ⟨WA, hWA⟩ : ∃ WA, WA = wr.alloc (.cells #[.int .i64 X.f, .int .i64 X.b, .int .i64 X.r, .int .i64 X.d] 71) := ⟨_, rfl⟩
            rw [← hWA]
            have bA : ScB WA wr.heap.size X := by rw [hWA]; exact World.alloc_heap_new wr _
            have hBA : RowKit.Below w3.heap.size w3 WA := by rw [hWA]; exact HBr.out.alloc HBr.out.size _
            have hOA := HO.out.alloc (.cells #[.int .i64 X.f, .int .i64 X.b, .int .i64 X.r, .int .i64 X.d] 71)
            rw [← hWA] at hOA
            have hd : RowKit.Below WA.heap.size WA WA.drew := (Below.refl _ WA).drew
            have b1 := bA.below hd
            have hO1 := hOA.below hd
            have hB1 := hBA.trans (hd.mono hBA.size)
            have t1 := HT3.out.below hz3 hB1
            have hS1 := And.intro b1.all t1.all
            have hz4 := hB1.size
            generalize WA.drew = W1 at *
            clear hWA bA hBA hOA hd x0 x1 x2 x3
            refine wpAny_of_held (S := (fun w' => (w'.cell? ⟨wr.heap.size, 0, none⟩ = some (.int .i64 X.f) ∧ w'.cell? ⟨wr.heap.size, 1, none⟩ = some (.int .i64 X.b) ∧ w'.cell? ⟨wr.heap.size, 2, none⟩ = some (.int .i64 X.r) ∧ w'.cell? ⟨wr.heap.size, 3, none⟩ = some (.int .i64 X.d)) ∧
              w'.cell? ⟨w.heap.size, 0, none⟩ = some (.int .i64 rn) ∧ w'.cell? ⟨w.heap.size, 1, none⟩ = some (.int .i64 rd))) _ _ _ _ ?_
            refine tk0 (v := ?_) (by kernel_rfl) (by kernel_rfl) (by kernel_rfl) (fun _ _ _ h => h) (Or.inl ⟨by rfl, ?_⟩) hS1 ?_
            rotate_left
            · (intro w hSw; (try dsimp only at hSw); go_simp; try with_reducible rfl)
            simp only [Act.put, List.setIfInBounds_toArray, List.set_cons_zero, List.set_cons_succ]
            refine tk1 (v := ?_) (by kernel_rfl) (by kernel_rfl) (by kernel_rfl) (fun _ _ _ h => h) (Or.inl ⟨by rfl, ?_⟩) hS1 ?_
            rotate_left
            · (intro w hSw; (try dsimp only at hSw); go_simp; try with_reducible rfl)
            simp only [Act.put, List.setIfInBounds_toArray, List.set_cons_zero, List.set_cons_succ]
            refine tk3 (v := ?_) (by kernel_rfl) (by kernel_rfl) (by kernel_rfl) (fun _ _ _ h => h) (Or.inl ⟨by rfl, ?_⟩) hS1 ?_
            rotate_left
            · (intro w hSw; (try dsimp only at hSw); go_simp; try with_reducible rfl)
            simp only [Act.put, List.setIfInBounds_toArray, List.set_cons_zero, List.set_cons_succ]
            refine wpAnyH_ready (rs := [2]) (by kernel_rfl) (by simp) (st2 (fun K hK => ?_) AllReadyH.nil)
            go_simp
            refine (KKP.out _).mono ?_
            rintro _ W2 ⟨rfl, hb2⟩
            go_wp2_with fail
            have b2 := b1.below hb2
            have hO2 := hO1.below hb2
            have hB2 := hB1.trans (hb2.mono hB1.size)
            have t2 := HT3.out.below hz3 hB2
            have hz5 := hB2.size
            refine hK.out _ _ ?_ (fun hHeld => ?_)
            · exact ⟨b2.all, t2.all⟩
            clear hK K
            try simp only [Act.put, List.setIfInBounds_toArray, List.set_cons_zero, List.set_cons_succ]
            refine wpAnyH_ready (rs := [4]) (by kernel_rfl) (by simp) (st4 (fun K hK => ?_) AllReadyH.nil)
            go_simp
            refine (KKT.out _).mono ?_
            rintro _ W3 ⟨rfl, hb3⟩
            go_wp2_with fail
            have b3 := b2.below hb3
            have hO3 := hO2.below hb3
            have hB3 := hB2.trans (hb3.mono hB2.size)
            have t3 := HT3.out.below hz3 hB3
            have hz6 := hB3.size
            refine hK.out _ _ ?_ (fun hHeld => ?_)
            · exact ⟨b3.all, t3.all⟩
            clear hK K
            try simp only [Act.put, List.setIfInBounds_toArray, List.set_cons_zero, List.set_cons_succ]
            refine wpAnyH_ready (rs := [5]) (by kernel_rfl) (by simp) (st5 (fun K hK => ?_) AllReadyH.nil)
            go_simp
            have hal := (Below.refl _ W3).alloc (Nat.le_refl _) (.cells #[.int .i64 Y.f, .int .i64 Y.vn, .int .i64 Y.vd, .int .i64 Y.sn, .int .i64 Y.sd] 51)
            have hB4 := hB3.trans (hal.mono hB3.size)
            refine hK.out _ _ ?_ (fun hHeld => ?_)
            · exact ⟨(b3.below hal).all, (HT3.out.below hz3 hB4).all⟩
            clear hK K
            try simp only [Act.put, List.setIfInBounds_toArray, List.set_cons_zero, List.set_cons_succ]
            refine wpAnyH_ready (rs := [6]) (by kernel_rfl) (by simp) (st6 (fun K hK => ?_) AllReadyH.nil)
            refine step_appP rfl (.tmp 47) (.tmp 52) rfl w3.heap.size _ _ rfl (hO3.below hal) W3.heap.size 1 Y rfl (OneP.new W3 Y _) (by have := HTL.out; omega) (by simp; omega) (fun v' w' ho hg => ?_)
            have b5 : ScB w' wr.heap.size X := blk_grownP (b3.below hal) (by decide) (hO3.below hal) hg
            have HB5 : Hid (RowKit.Below w3.heap.size w3 w') := hB4.grown hg (by simp; omega) (hO3.below hal).block
            have HO5 : Hid (OwnP w' w3.heap.size v' ((R.take (k + 1)).map fun s => rpO (mulH (fr rn rd) s.A))) := by show OwnP _ _ _ _; rw [HTk.out]; exact ho
            refine hK.out _ _ ?_ (fun hHeld => ?_)
            · exact ⟨b5.all, (HT3.out.below hz3 HB5.out).all⟩
            clear hK K
            try simp only [Act.put, List.setIfInBounds_toArray, List.set_cons_zero, List.set_cons_succ]
            refine tk7 (v := ?_) (by kernel_rfl) (by kernel_rfl) (by kernel_rfl) (fun _ _ _ h => h) (Or.inl ⟨by rfl, ?_⟩) hHeld ?_
            rotate_left
            · (intro w hSw; (try dsimp only at hSw); go_simp; try with_reducible rfl)
            simp only [Act.put, List.setIfInBounds_toArray, List.set_cons_zero, List.set_cons_succ]
            refine wpAnyH_done (by kernel_rfl) ?_ _
            clear b5 ho hg hal hB4 t3 hB3 hO3 b3 hb3 t2 hB2 hO2 b2 hb2 t1 hB1 hO1 b1
            go_wp2_with fail
            go_roundg (m - (k + 1))
            case measure => omega
            case rel => exact ⟨k + 1, by go_num, by omega, by omega, HB5.out, HO5.out⟩
          · obtain rfl : k = m := by omega
            have hltz : ¬ (k : Int) < (k : Int) := by omega
            have eR : R.take k = R := List.take_of_length_le (by have := HM.out; omega)
            have hO := HO.out
            rw [eR] at hO
            have HIN : Hid (∀ s, s ∈ R.map (fun s => rpO (mulH (fr rn rd) s.A)) → s.In) := fun s hs => by
              obtain ⟨t, ht, rfl⟩ := List.mem_map.1 hs
              exact rpO_inA (HWA.out t ht).2.2
            obtain ⟨p, b, cp, hv, hS⟩ := hO.reads (by rw [List.length_map, HM.out]; omega) HIN.out
            have hln : (R.map fun s => rpO (mulH (fr rn rd) s.A)).length = k := by rw [List.length_map]; exact HM.out
            rw [hln] at hv hS
            subst hv
            have KC := Lib.hid (checked_any _ p b 0 cp k wr hS)
            have HBg := Lib.hid (HB3.out.trans (HBr.out.mono (Nat.le_of_lt hz3)))
            clear hS hln hO eR
            go_wp2_with fail
            refine KC.out.mono ?_
            rintro _ w4 ⟨p3, b3, off3, len3, cap3, rfl, hs3, hb3⟩
            have HS3 := Lib.hid hs3
            have HB4 := Lib.hid (HBg.out.trans (hb3.mono HBg.out.size))
            clear hs3 hb3
            go_wp2
            go_ret2
            exact ⟨p3, b3, off3, len3, cap3, rfl, HS3.out, HB4.out⟩
  · have hrb : ((0 : Int) == 0) = true := rfl
    go_wp2_with fail
    go_loopg [6, 27] 1 (fun q s6 s27 wr => ∃ k : Nat, s27 = .int .i64 k ∧ k ≤ 1 ∧ 1 - k ≤ q ∧ Hid (RowKit.Below w2.heap.size w2 wr) ∧ Hid (OwnS wr w2.heap.size s6 ((F.take k).map secP)))
    case atStart => exact ⟨0, rfl, by omega, by omega, Below.refl _ _, OwnS.empty _ _⟩
    case round =>
      obtain ⟨k, rfl, hk, hkq, HBr, HO⟩ := hrel
      clear c0 c1
      by_cases hlt : k < 1
      · have hltz : (k : Int) < (1 : Int) := by omega
        have hkl : k < F.length := by rw [HFL.out]; exact hlt
        have HS1 := Lib.hid (HFS.out.below (HB2.out.trans (HBr.out.mono (Nat.le_of_lt hz2))))
        obtain ⟨x0, x1, x2, x3, x4⟩ := HS1.out.cells k hkl
        have KQ := Lib.hid (fun w => lineof_wl (HW.out F[k] (List.getElem_mem hkl)) w)
        have HTk := Lib.hid (show (F.take (k + 1)).map secP = (F.take k).map secP ++ [secP F[k]] from by
          rw [List.take_succ_eq_append_getElem hkl, List.map_append]; rfl)
        have HTL := Lib.hid (show ((F.take k).map secP).length ≤ 64 from by have := HN1.out; rw [List.length_map, List.length_take]; omega)
        obtain ⟨X, hX⟩ : ∃ X, X = F[k] := ⟨_, rfl⟩
        rw [← hX] at x0 x1 x2 x3 x4 KQ HTk
        clear hX
        go_wp2_with fail
        refine wp_region_dr mixed ?_
        obtain ⟨WA, hWA⟩ : ∃ WA, WA = wr.alloc (.cells #[.int .i64 X.f, .int .i64 X.vn, .int .i64 X.vd, .int .i64 X.sn, .int .i64 X.sd] 51) := ⟨_, rfl⟩
        rw [← hWA]
        have bA : PcB WA wr.heap.size X := by rw [hWA]; exact World.alloc_heap_new wr _
        have hBA : RowKit.Below w2.heap.size w2 WA := by rw [hWA]; exact HBr.out.alloc HBr.out.size _
        have hOA := HO.out.alloc (.cells #[.int .i64 X.f, .int .i64 X.vn, .int .i64 X.vd, .int .i64 X.sn, .int .i64 X.sd] 51)
        rw [← hWA] at hOA
        have hd : RowKit.Below WA.heap.size WA WA.drew := (Below.refl _ WA).drew
        have b1 := bA.below hd
        have hO1 := hOA.below hd
        have hB1 := hBA.trans (hd.mono hBA.size)
        have hS1 := b1.all
        have hz3 := hB1.size
        generalize WA.drew = W1 at *
        clear hWA bA hBA hOA hd x0 x1 x2 x3 x4
        refine wpAny_of_held (S := (fun w => w.cell? ⟨wr.heap.size, 0, none⟩ = some (.int .i64 X.f) ∧ w.cell? ⟨wr.heap.size, 1, none⟩ = some (.int .i64 X.vn) ∧ w.cell? ⟨wr.heap.size, 2, none⟩ = some (.int .i64 X.vd) ∧ w.cell? ⟨wr.heap.size, 3, none⟩ = some (.int .i64 X.sn) ∧ w.cell? ⟨wr.heap.size, 4, none⟩ = some (.int .i64 X.sd))) _ _ _ _ ?_
        refine tk0 (v := ?_) (by kernel_rfl) (by kernel_rfl) (by kernel_rfl) (fun _ _ _ h => h) (Or.inl ⟨by rfl, ?_⟩) hS1 ?_
        rotate_left
        · (intro w hSw; (try dsimp only at hSw); go_simp; try with_reducible rfl)
        simp only [Act.put, List.setIfInBounds_toArray, List.set_cons_zero, List.set_cons_succ]
        refine tk1 (v := ?_) (by kernel_rfl) (by kernel_rfl) (by kernel_rfl) (fun _ _ _ h => h) (Or.inl ⟨by rfl, ?_⟩) hS1 ?_
        rotate_left
        · (intro w hSw; (try dsimp only at hSw); go_simp; try with_reducible rfl)
        simp only [Act.put, List.setIfInBounds_toArray, List.set_cons_zero, List.set_cons_succ]
        refine tk2 (v := ?_) (by kernel_rfl) (by kernel_rfl) (by kernel_rfl) (fun _ _ _ h => h) (Or.inl ⟨by rfl, ?_⟩) hS1 ?_
        rotate_left
        · (intro w hSw; (try dsimp only at hSw); go_simp; try with_reducible rfl)
        simp only [Act.put, List.setIfInBounds_toArray, List.set_cons_zero, List.set_cons_succ]
        refine tk3 (v := ?_) (by kernel_rfl) (by kernel_rfl) (by kernel_rfl) (fun _ _ _ h => h) (Or.inl ⟨by rfl, ?_⟩) hS1 ?_
        rotate_left
        · (intro w hSw; (try dsimp only at hSw); go_simp; try with_reducible rfl)
        simp only [Act.put, List.setIfInBounds_toArray, List.set_cons_zero, List.set_cons_succ]
        refine wpAnyH_ready (rs := [4]) (by kernel_rfl) (by simp) (st4 (fun K hK => ?_) AllReadyH.nil)
        go_simp
        refine (KQ.out _).mono ?_
        rintro _ W2 ⟨rfl, hb2⟩
        go_wp2_with fail
        have b2 := b1.below hb2
        have hO2 := hO1.below hb2
        have hB2 := hB1.trans (hb2.mono hB1.size)
        have hz4 := hB2.size
        refine hK.out _ _ ?_ (fun hHeld => ?_)
        · exact b2.all
        clear hK K
        try simp only [Act.put, List.setIfInBounds_toArray, List.set_cons_zero, List.set_cons_succ]
        refine tk5 (v := ?_) (by kernel_rfl) (by kernel_rfl) (by kernel_rfl) (fun _ _ _ h => h) (Or.inl ⟨by rfl, ?_⟩) hHeld ?_
        rotate_left
        · (intro w hSw; (try dsimp only at hSw); go_simp; try with_reducible rfl)
        simp only [Act.put, List.setIfInBounds_toArray, List.set_cons_zero, List.set_cons_succ]
        refine wpAnyH_ready (rs := [6]) (by kernel_rfl) (by simp) (st6 (fun K hK => ?_) AllReadyH.nil)
        go_simp
        have hal := (Below.refl _ W2).alloc (Nat.le_refl _) (.cells #[.int .i64 X.f, .int .i64 (lnOf X).b, .int .i64 (lnOf X).r, .int .i64 (lnOf X).d] 71)
        refine hK.out _ _ ?_ (fun hHeld => ?_)
        · exact (b2.below hal).all
        clear hK K
        try simp only [Act.put, List.setIfInBounds_toArray, List.set_cons_zero, List.set_cons_succ]
        refine wpAnyH_ready (rs := [7]) (by kernel_rfl) (by simp) (st7 (fun K hK => ?_) AllReadyH.nil)
        refine step_appS rfl (.tmp 31) (.tmp 37) rfl w2.heap.size _ _ rfl (hO2.below hal) W2.heap.size 1 (secP X) rfl (OneS.new W2 (secP X) _) (by have := HTL.out; omega) (by simp; omega) (fun v' w' ho hg => ?_)
        have b3 : PcB w' wr.heap.size X := blk_grownS (b2.below hal) (by decide) (hO2.below hal) hg
        have HB5 : Hid (RowKit.Below w2.heap.size w2 w') := (hB2.trans (hal.mono hB2.size)).grown hg (by simp; omega) (hO2.below hal).block
        have HO5 : Hid (OwnS w' w2.heap.size v' ((F.take (k + 1)).map secP)) := by show OwnS _ _ _ _; rw [HTk.out]; exact ho
        refine hK.out _ _ ?_ (fun hHeld => ?_)
        · exact b3.all
        clear hK K
        try simp only [Act.put, List.setIfInBounds_toArray, List.set_cons_zero, List.set_cons_succ]
        refine tk8 (v := ?_) (by kernel_rfl) (by kernel_rfl) (by kernel_rfl) (fun _ _ _ h => h) (Or.inl ⟨by rfl, ?_⟩) hHeld ?_
        rotate_left
        · (intro w hSw; (try dsimp only at hSw); go_simp; try with_reducible rfl)
        simp only [Act.put, List.setIfInBounds_toArray, List.set_cons_zero, List.set_cons_succ]
        refine wpAnyH_done (by kernel_rfl) ?_ _
        clear b3 ho hg hal hO2 hB2 hB1 hO1 b1 b2 hb2
        go_wp2_with fail
        go_roundg (1 - (k + 1))
        case measure => omega
        case rel => exact ⟨k + 1, by go_num, by omega, by omega, HB5.out, HO5.out⟩
      · obtain rfl : k = 1 := by omega
        have eF : F.take 1 = F := List.take_of_length_le (by have := HFL.out; omega)
        have hO := HO.out
        rw [eF] at hO
        have hok : ∀ s, s ∈ F.map secP → s.Ok := fun s hs => by
          obtain ⟨p, hp, rfl⟩ := List.mem_map.1 hs
          exact secP_ok (HW.out p hp)
        have HWA : Hid (∀ s, s ∈ redS (F.map secP) → wl (rpO s.A) = true ∧ toAP (rpO s.A) = s.A ∧ s.Ok) := fun s hs => by
          obtain ⟨p, hp, rfl⟩ := List.mem_map.1 (redS_sub hs)
          have hw := HW.out p hp
          rw [secP_A hw, rpO_ok (lim_toAP hw.1), back hw.1]
          exact ⟨hw.1, rfl, secP_ok hw⟩
        have hLn : (F.map secP).length = 1 := by rw [List.length_map]; exact HFL.out
        have hk := HN1.out
        rw [← HLL.out] at hO hok HWA hLn
        rw [← HRR.out] at HWA
        clear eF HO
        have hO0 := hO
        rcases hO.2 with ⟨rfl, h0⟩ | ⟨g0, cap, cur, rfl, hg0, hgb, _⟩
        · omega
        rw [hLn] at hO0
        have KR := Lib.hid (reduced_any L g0 1 cap w2.heap.size wr hO0 hLn hok)
        have HG0 := Lib.hid hg0
        rw [← HRR.out] at KR
        have hRl : R.length ≤ 1 := by
          rw [HRR.out]
          have : ∀ (l : List SP) (a : SP), (rfS a l).length ≤ l.length := by
            intro l
            induction l with
            | nil => intro a; exact Nat.le_refl _
            | cons b t ih => intro a; rw [rfS]; have := ih b; split <;> simp <;> omega
          rw [← hLn]
          cases L with
          | nil => exact Nat.le_refl _
          | cons a t => have := this t a; simp [redS]; omega
        rw [hLn]
        clear hO hO0 hg0 hgb hok hLn
        go_wp2_with fail
        refine KR.out.mono ?_
        rintro _ w3 ⟨m, rfl, hs, hb⟩
        have HS := Lib.hid hs
        have HM := Lib.hid hs.ln
        have hm64 : m ≤ 64 := by have := hs.ln; omega
        have HT3 : Hid (RtB w3 w.heap.size 0 rd) := by
          show _ = _
          exact (hb.block _ (Nat.lt_of_lt_of_le hz2 HBr.out.size) (fun e => by have := HG0.out; have := Option.some.inj e; omega)).trans (HT2.out.below hz2 HBr.out)
        have HB3 := Lib.hid ((HB2.out.trans (HBr.out.mono (Nat.le_of_lt hz2))).trans (hb.below (Nat.le_trans (Nat.le_of_lt hz2) HBr.out.size) (Nat.le_trans (Nat.le_of_lt hz2) HG0.out)))
        have hz3 : w.heap.size < w3.heap.size := Nat.lt_of_lt_of_le (Nat.lt_of_lt_of_le hz2 HBr.out.size) hb.size
        have KP := Lib.hid (fun (k : Nat) (h : k < R.length) (w : World) => piece_any R[k] w (HWA.out _ (List.getElem_mem h)).2.2)
        have KT := Lib.hid (fun (k : Nat) (h : k < R.length) (w : World) => ptimes_any (rpO R[k].A) 0 rd w (HWA.out _ (List.getElem_mem h)).1 HR.out)
        unfold SP.V RP.V at KP
        unfold RP.V at KT
        clear hs hb hRl KR
        go_wp2_with fail
        go_loopg [9, 43] m (fun q s9 s43 wr => ∃ k : Nat, s43 = .int .i64 k ∧ k ≤ m ∧ m - k ≤ q ∧ Hid (RowKit.Below w3.heap.size w3 wr) ∧ Hid (OwnP wr w3.heap.size s9 ((R.take k).map fun s => rpO (mulH (fr 0 rd) s.A))))
        case atStart => exact ⟨0, rfl, by omega, by omega, Below.refl _ _, OwnP.empty _ _⟩
        case round =>
          obtain ⟨k, rfl, hk, hkq, HBr, HO⟩ := hrel
          by_cases hlt : k < m
          · have hltz : (k : Int) < (m : Int) := by omega
            have hkl : k < R.length := by rw [HM.out]; exact hlt
            have HS1 := Lib.hid (HS.out.below HBr.out)
            obtain ⟨x0, x1, x2, x3⟩ := HS1.out.at hkl
            have KKP := Lib.hid (KP.out k hkl)
            have KKT := Lib.hid (KT.out k hkl)
            have HTk := Lib.hid (show (R.take (k + 1)).map (fun s => rpO (mulH (fr 0 rd) s.A)) = (R.take k).map (fun s => rpO (mulH (fr 0 rd) s.A)) ++ [rpO (mulH (fr 0 rd) R[k].A)] from by
              rw [List.take_succ_eq_append_getElem hkl, List.map_append]; rfl)
            have HTL := Lib.hid (show ((R.take k).map fun s => rpO (mulH (fr 0 rd) s.A)).length ≤ 64 from by rw [List.length_map, List.length_take]; omega)
            rw [(HWA.out _ (List.getElem_mem hkl)).2.1] at KKT
            obtain ⟨Y, hY⟩ : ∃ Y, Y = rpO (mulH (fr 0 rd) R[k].A) := ⟨_, rfl⟩
            obtain ⟨Z, hZ⟩ : ∃ Z, Z = rpO R[k].A := ⟨_, rfl⟩
            rw [← hY] at KKT HTk
            rw [← hZ] at KKP KKT
            clear hY hZ
            obtain ⟨X, hX⟩ : ∃ X, X = R[k] := ⟨_, rfl⟩
            rw [← hX] at x0 x1 x2 x3 KKP
            clear hX
            go_wp2_with fail
            refine wp_region_dr mixed ?_
            obtain ⟨WA, hWA⟩ : ∃ WA, WA = wr.alloc (.cells #[.int .i64 X.f, .int .i64 X.b, .int .i64 X.r, .int .i64 X.d] 71) := ⟨_, rfl⟩
            rw [← hWA]
            have bA : ScB WA wr.heap.size X := by rw [hWA]; exact World.alloc_heap_new wr _
            have hBA : RowKit.Below w3.heap.size w3 WA := by rw [hWA]; exact HBr.out.alloc HBr.out.size _
            have hOA := HO.out.alloc (.cells #[.int .i64 X.f, .int .i64 X.b, .int .i64 X.r, .int .i64 X.d] 71)
            rw [← hWA] at hOA
            have hd : RowKit.Below WA.heap.size WA WA.drew := (Below.refl _ WA).drew
            have b1 := bA.below hd
            have hO1 := hOA.below hd
            have hB1 := hBA.trans (hd.mono hBA.size)
            have t1 := HT3.out.below hz3 hB1
            have hS1 := And.intro b1.all t1.all
            have hz4 := hB1.size
            generalize WA.drew = W1 at *
            clear hWA bA hBA hOA hd x0 x1 x2 x3
            refine wpAny_of_held (S := (fun w' => (w'.cell? ⟨wr.heap.size, 0, none⟩ = some (.int .i64 X.f) ∧ w'.cell? ⟨wr.heap.size, 1, none⟩ = some (.int .i64 X.b) ∧ w'.cell? ⟨wr.heap.size, 2, none⟩ = some (.int .i64 X.r) ∧ w'.cell? ⟨wr.heap.size, 3, none⟩ = some (.int .i64 X.d)) ∧
              w'.cell? ⟨w.heap.size, 0, none⟩ = some (.int .i64 0) ∧ w'.cell? ⟨w.heap.size, 1, none⟩ = some (.int .i64 rd))) _ _ _ _ ?_
            refine tk0 (v := ?_) (by kernel_rfl) (by kernel_rfl) (by kernel_rfl) (fun _ _ _ h => h) (Or.inl ⟨by rfl, ?_⟩) hS1 ?_
            rotate_left
            · (intro w hSw; (try dsimp only at hSw); go_simp; try with_reducible rfl)
            simp only [Act.put, List.setIfInBounds_toArray, List.set_cons_zero, List.set_cons_succ]
            refine tk1 (v := ?_) (by kernel_rfl) (by kernel_rfl) (by kernel_rfl) (fun _ _ _ h => h) (Or.inl ⟨by rfl, ?_⟩) hS1 ?_
            rotate_left
            · (intro w hSw; (try dsimp only at hSw); go_simp; try with_reducible rfl)
            simp only [Act.put, List.setIfInBounds_toArray, List.set_cons_zero, List.set_cons_succ]
            refine tk3 (v := ?_) (by kernel_rfl) (by kernel_rfl) (by kernel_rfl) (fun _ _ _ h => h) (Or.inl ⟨by rfl, ?_⟩) hS1 ?_
            rotate_left
            · (intro w hSw; (try dsimp only at hSw); go_simp; try with_reducible rfl)
            simp only [Act.put, List.setIfInBounds_toArray, List.set_cons_zero, List.set_cons_succ]
            refine wpAnyH_ready (rs := [2]) (by kernel_rfl) (by simp) (st2 (fun K hK => ?_) AllReadyH.nil)
            go_simp
            refine (KKP.out _).mono ?_
            rintro _ W2 ⟨rfl, hb2⟩
            go_wp2_with fail
            have b2 := b1.below hb2
            have hO2 := hO1.below hb2
            have hB2 := hB1.trans (hb2.mono hB1.size)
            have t2 := HT3.out.below hz3 hB2
            have hz5 := hB2.size
            refine hK.out _ _ ?_ (fun hHeld => ?_)
            · exact ⟨b2.all, t2.all⟩
            clear hK K
            try simp only [Act.put, List.setIfInBounds_toArray, List.set_cons_zero, List.set_cons_succ]
            refine wpAnyH_ready (rs := [4]) (by kernel_rfl) (by simp) (st4 (fun K hK => ?_) AllReadyH.nil)
            go_simp
            refine (KKT.out _).mono ?_
            rintro _ W3 ⟨rfl, hb3⟩
            go_wp2_with fail
            have b3 := b2.below hb3
            have hO3 := hO2.below hb3
            have hB3 := hB2.trans (hb3.mono hB2.size)
            have t3 := HT3.out.below hz3 hB3
            have hz6 := hB3.size
            refine hK.out _ _ ?_ (fun hHeld => ?_)
            · exact ⟨b3.all, t3.all⟩
            clear hK K
            try simp only [Act.put, List.setIfInBounds_toArray, List.set_cons_zero, List.set_cons_succ]
            refine wpAnyH_ready (rs := [5]) (by kernel_rfl) (by simp) (st5 (fun K hK => ?_) AllReadyH.nil)
            go_simp
            have hal := (Below.refl _ W3).alloc (Nat.le_refl _) (.cells #[.int .i64 Y.f, .int .i64 Y.vn, .int .i64 Y.vd, .int .i64 Y.sn, .int .i64 Y.sd] 51)
            have hB4 := hB3.trans (hal.mono hB3.size)
            refine hK.out _ _ ?_ (fun hHeld => ?_)
            · exact ⟨(b3.below hal).all, (HT3.out.below hz3 hB4).all⟩
            clear hK K
            try simp only [Act.put, List.setIfInBounds_toArray, List.set_cons_zero, List.set_cons_succ]
            refine wpAnyH_ready (rs := [6]) (by kernel_rfl) (by simp) (st6 (fun K hK => ?_) AllReadyH.nil)
            refine step_appP rfl (.tmp 47) (.tmp 52) rfl w3.heap.size _ _ rfl (hO3.below hal) W3.heap.size 1 Y rfl (OneP.new W3 Y _) (by have := HTL.out; omega) (by simp; omega) (fun v' w' ho hg => ?_)
            have b5 : ScB w' wr.heap.size X := blk_grownP (b3.below hal) (by decide) (hO3.below hal) hg
            have HB5 : Hid (RowKit.Below w3.heap.size w3 w') := hB4.grown hg (by simp; omega) (hO3.below hal).block
            have HO5 : Hid (OwnP w' w3.heap.size v' ((R.take (k + 1)).map fun s => rpO (mulH (fr 0 rd) s.A))) := by show OwnP _ _ _ _; rw [HTk.out]; exact ho
            refine hK.out _ _ ?_ (fun hHeld => ?_)
            · exact ⟨b5.all, (HT3.out.below hz3 HB5.out).all⟩
            clear hK K
            try simp only [Act.put, List.setIfInBounds_toArray, List.set_cons_zero, List.set_cons_succ]
            refine tk7 (v := ?_) (by kernel_rfl) (by kernel_rfl) (by kernel_rfl) (fun _ _ _ h => h) (Or.inl ⟨by rfl, ?_⟩) hHeld ?_
            rotate_left
            · (intro w hSw; (try dsimp only at hSw); go_simp; try with_reducible rfl)
            simp only [Act.put, List.setIfInBounds_toArray, List.set_cons_zero, List.set_cons_succ]
            refine wpAnyH_done (by kernel_rfl) ?_ _
            clear b5 ho hg hal hB4 t3 hB3 hO3 b3 hb3 t2 hB2 hO2 b2 hb2 t1 hB1 hO1 b1
            go_wp2_with fail
            go_roundg (m - (k + 1))
            case measure => omega
            case rel => exact ⟨k + 1, by go_num, by omega, by omega, HB5.out, HO5.out⟩
          · obtain rfl : k = m := by omega
            have hltz : ¬ (k : Int) < (k : Int) := by omega
            have eR : R.take k = R := List.take_of_length_le (by have := HM.out; omega)
            have hO := HO.out
            rw [eR] at hO
            have HIN : Hid (∀ s, s ∈ R.map (fun s => rpO (mulH (fr 0 rd) s.A)) → s.In) := fun s hs => by
              obtain ⟨t, ht, rfl⟩ := List.mem_map.1 hs
              exact rpO_inA (HWA.out t ht).2.2
            obtain ⟨p, b, cp, hv, hS⟩ := hO.reads (by rw [List.length_map, HM.out]; omega) HIN.out
            have hln : (R.map fun s => rpO (mulH (fr 0 rd) s.A)).length = k := by rw [List.length_map]; exact HM.out
            rw [hln] at hv hS
            subst hv
            have KC := Lib.hid (checked_any _ p b 0 cp k wr hS)
            have HBg := Lib.hid (HB3.out.trans (HBr.out.mono (Nat.le_of_lt hz3)))
            clear hS hln hO eR
            go_wp2_with fail
            refine KC.out.mono ?_
            rintro _ w4 ⟨p3, b3, off3, len3, cap3, rfl, hs3, hb3⟩
            have HS3 := Lib.hid hs3
            have HB4 := Lib.hid (HBg.out.trans (hb3.mono HBg.out.size))
            clear hs3 hb3
            go_wp2
            go_ret2
            exact ⟨p3, b3, off3, len3, cap3, rfl, HS3.out, HB4.out⟩
theorem scale_any (f : List RP) (pf : Option Addr) (bf of cf lf : Nat) (rn rd : Int) (w : World) (hS : SlP w pf bf of lf f) (hc : lf ≤ cf) (i1 : In64 rn) (i2 : In64 rd) :
    Calls Try.prog 19 #[.slice pf lf cf, .agg #[.int .i64 rn, .int .i64 rd]] w fun e w' => OutP (RowKit.Below w.heap.size w) (scaV f rn rd).1 (scaV f rn rd).2 e w' := by
  by_cases hf : VR f
  · by_cases hr : vld rn rd = true
    · have hq := (vld_iff rn rd).1 hr
      have hd : 0 < rd := by have := hq.2.2.1; omega
      have e0 : fr rn rd = 0 ↔ rn = 0 := by
        have h := fr_eq (a := rn) (b := rd) (c := 0) (d := 1) hd (by omega)
        rw [show fr 0 1 = 0 from by rw [fr_int]; rfl] at h
        rw [h]
        omega
      rw [show scaV f rn rd = scaleR f rn rd from if_pos ⟨hf, hr⟩]
      by_cases h0 : rn = 0
      · have := scale_yes f (f.take 1) pf bf of cf lf 1 rn rd w hS hc (.inr ⟨h0, rfl, rfl⟩) hf hq
        rw [scale_is (fun p hp => hf.wl (List.mem_of_mem_take hp))] at this
        unfold scaleR scaleA scaleL
        rw [if_pos (e0.2 h0)]
        unfold AA at *
        rw [List.map_take] at this
        exact this
      · have := scale_yes f f pf bf of cf lf lf rn rd w hS hc (.inl ⟨h0, rfl, rfl⟩) hf hq
        rw [scale_is (fun p hp => hf.wl hp)] at this
        unfold scaleR scaleA scaleL
        rw [if_neg (fun h => h0 (e0.1 h))]
        exact this
    · rw [show scaV f rn rd = ([], 1) from if_neg fun h => hr h.2]
      exact scale_bad f pf bf of cf lf rn rd w hS true false (vR_iff.2 hf) (by simpa using hr) (.inr ⟨rfl, rfl⟩) i1 i2
  · rw [show scaV f rn rd = ([], 1) from if_neg fun h => hf h.1]
    exact scale_bad f pf bf of cf lf rn rd w hS false (vld rn rd) (vR_no hf) rfl (.inl rfl) i1 i2
end Go.Proofs.Ytmjdolgcgbiajaa
