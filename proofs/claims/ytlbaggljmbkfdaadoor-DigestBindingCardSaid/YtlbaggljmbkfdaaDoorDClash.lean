/-
  Two ways up a tree: the contract of clash.
-/
import Derived.Test.YtlbaggljmbkfdaaDoorDHead
import Derived.Laws.BytesArg
import Derived.Deep.RegionHeld3
namespace Go.Proofs.YtlbaggljmbkfdaaDoor
open Go.RowKit Dg

/-- Bytes as a string. -/
def sb (L : List Nat) : ByteArray := strOfNums (L.map Int.ofNat)
theorem sb_inj : ∀ {A B : List Nat}, Bytes A → Bytes B → sb A = sb B → A = B := by
  have h : ∀ A B : List Nat, Bytes A → Bytes B → A.map (fun n => UInt8.ofNat n) = B.map (fun n => UInt8.ofNat n) → A = B := by
    intro A
    induction A with
    | nil => intro B _ _ h; cases B with
      | nil => rfl
      | cons b B => simp at h
    | cons a A ih => intro B hA hB h; cases B with
      | nil => simp at h
      | cons b B =>
        simp only [List.map_cons, List.cons.injEq] at h
        have ha := hA a (by simp)
        have hb := hB b (by simp)
        have e : a = b := by
          have := congrArg UInt8.toNat h.1
          simpa [UInt8.toNat_ofNat, Nat.mod_eq_of_lt ha, Nat.mod_eq_of_lt hb] using this
        rw [e, ih B (fun c hc => hA c (by simp [hc])) (fun c hc => hB c (by simp [hc])) h.2]
  intro A B hA hB e
  refine h A B hA hB ?_
  have e2 : (A.map Int.ofNat).map (fun n => UInt8.ofNat n.toNat) = (B.map Int.ofNat).map (fun n => UInt8.ofNat n.toNat) := by
    rw [← strOfNums_data, ← strOfNums_data]
    exact congrArg (fun s => s.data.toList) e
  rw [List.map_map, List.map_map] at e2
  exact e2
theorem conv_sb {W : World} {q : Option Addr} {b n cap : Nat} {L : List Nat} (hS : SlF u8v W q b 0 n L) (hn : 0 < n) : (convert 22 9 (.slice q n cap)).run Tryd.prog W = .ok (.string (sb L)) W := by
  rw [hS.ptr hn]
  refine run_convert_bytes_arg W 22 5 Tryd.underlying22 Tryd.underlying5 b 0 n cap (L.map Int.ofNat) (by rw [List.length_map, hS.ln]) (fun i hi => ?_) 9 Tryd.underlying9
  have hl := hS.ln
  rw [hS.cells i (by omega)]
  simp [u8v, List.getD, List.getElem?_eq_getElem (show i < L.length by omega)]
theorem SlF.drew {α : Type} {f : α → Value} {w : World} {p : Option Addr} {b off len : Nat} {l : List α} (h : SlF f w p b off len l) : SlF f w.drew p b off len l := ⟨h.ln, h.ptr, h.cells, h.lt, h.max⟩
theorem SlF.lit2 {α : Type} (w : World) (o : Obj) (f : α → Value) (l : List α) (T : TypeId) (hl : l.length ≤ 1000000 := by simp) : SlF f ((w.alloc o).alloc (.cells ((l : List _).map f).toArray T)) (some ⟨w.heap.size + 1, 0, none⟩) (w.heap.size + 1) 0 l.length l := by
  have h := SlF.lit (w.alloc o) f l T (fr := (0, 0)) hl
  rw [World.size_alloc] at h
  exact h
section
variable {z w v : World} {a1 a2 : Addr} {x1 x2 : Value}
theorem Kp.of (h1 : z.cell? a1 = some x1) (h2 : z.cell? a2 = some x2) (hb : RowKit.Below z.heap.size z w) : w.cell? a1 = some x1 ∧ w.cell? a2 = some x2 ∧ RowKit.Below z.heap.size z w :=
  ⟨(hb.cell (World.block_lt_of_cell? _ _ h1)).trans h1, (hb.cell (World.block_lt_of_cell? _ _ h2)).trans h2, hb⟩
theorem Kp.call (h : w.cell? a1 = some x1 ∧ w.cell? a2 = some x2 ∧ RowKit.Below z.heap.size z w) (hb : RowKit.Below w.heap.size w v) : v.cell? a1 = some x1 ∧ v.cell? a2 = some x2 ∧ RowKit.Below z.heap.size z v :=
  ⟨(hb.cell (World.block_lt_of_cell? _ _ h.1)).trans h.1, (hb.cell (World.block_lt_of_cell? _ _ h.2.1)).trans h.2.1, h.2.2.trans (hb.mono h.2.2.size)⟩
theorem Kp.alc {o : Obj} (h : w.cell? a1 = some x1 ∧ w.cell? a2 = some x2 ∧ RowKit.Below z.heap.size z w) : (w.alloc o).cell? a1 = some x1 ∧ (w.alloc o).cell? a2 = some x2 ∧ RowKit.Below z.heap.size z (w.alloc o) :=
  Kp.call h ((Below.refl _ _).alloc (Nat.le_refl _) o)
end

/-- Two numbers that were just laid. -/
theorem two_lit (v : World) (x y : Nat) : SlF u64v (v.alloc (.cells #[.int .u64 x, .int .u64 y] 25)) (some ⟨v.heap.size, 0, none⟩) v.heap.size 0 2 [x, y] := SlF.lit v u64v [x, y] 25 (fr := (0, 0))
theorem two_lit2 (v : World) (o : Obj) (x y : Nat) : SlF u64v ((v.alloc o).alloc (.cells #[.int .u64 x, .int .u64 y] 25)) (some ⟨v.heap.size + 1, 0, none⟩) (v.heap.size + 1) 0 2 [x, y] := SlF.lit2 v o u64v [x, y] 25
theorem bytesK1 {l L : List Nat} {n : Nat} (hL : 1 :: blk l = L) (hn : L.length = n) {p : Option Addr} {b off cap : Nat} {w : World} (hS : SlF u64v w p b off 2 l) :
    Calls Tryd.prog 23 #[.int .u8 1, .slice p 2 cap] w fun e w' => OutN u8v n L w e w' := bytesK hL hn hS (by decide)

set_option maxRecDepth 100000 in
set_option maxHeartbeats 4000000 in
theorem clash_any (a b i n : Nat) (P Q : List Nat) (p1 : Option Addr) (b1 o1 c1 n1 : Nat) (p2 : Option Addr) (b2 o2 c2 n2 : Nat) (w : World) (hP : SlF u64v w p1 b1 o1 n1 P) (hQ : SlF u64v w p2 b2 o2 n2 Q) (hi : i ≤ 1024) (hn : n ≤ 1024) :
    Calls Tryd.prog 24 #[.int .u64 a, .int .u64 b, .int .i64 i, .int .i64 n, .slice p1 n1 c1, .slice p2 n2 c2] w fun e w' => e = .returned (.bool (clV a b i n P Q)) ∧ RowKit.Below w.heap.size w w' := by
  have HP := Lib.hid hP
  have HQ := Lib.hid hQ
  have hm1 := hP.max
  have hm2 := hQ.max
  have HPL := Lib.hid hP.ln
  have HQL := Lib.hid hQ.ln
  clear hP hQ
  obtain ⟨R, hR⟩ : ∃ R, R = clV a b i n P Q := ⟨_, rfl⟩
  rw [← hR]
  have HR0 : Hid (R = ((decide (lfB a ≠ lfB b) && decide (dig (lfB a) = dig (lfB b))) || clR (dig (lfB a)) (dig (lfB b)) i n (P.drop 0) (Q.drop 0))) := by show _ = _; rw [hR, List.drop_zero, List.drop_zero]; rfl
  obtain ⟨N9, hN9⟩ : ∃ N, N = 9 := ⟨_, rfl⟩
  obtain ⟨N17, hN17⟩ : ∃ N, N = 17 := ⟨_, rfl⟩
  have h9 : 0 < N9 := by omega
  have h17 : 0 < N17 := by omega
  have HNA : Hid ((lfB a).length = N9) := by show _ = _; rw [hN9]; rfl
  have HNB : Hid ((lfB b).length = N9) := by show _ = _; rw [hN9]; rfl
  have HN17 : Hid (∀ x y, (prB x y).length = N17) := fun x y => by rw [hN17]; rfl
  have HBA := Lib.hid (blk_lf a)
  have HBB := Lib.hid (blk_lf b)
  have HYA := Lib.hid (bytes_lf a)
  have HYB := Lib.hid (bytes_lf b)
  have HB0 : Hid (RowKit.Below w.heap.size w w) := Below.refl _ _
  clear hR hN9 hN17
  generalize lfB a = LA0 at *
  generalize lfB b = LB0 at *
  go_enter Tryd.func24, Tryd.ntmps24
  have HL1 := Lib.hid (SlF.lit w u64v [a] 25 (fr := (0, 0)))
  have HBx := Lib.hid (HB0.out.alloc HB0.out.size (.cells ([a].map u64v).toArray 25))
  go_wp2_with fail
  refine (bytesK HBA.out HNA.out HL1.out (by simp)).mono ?_
  rintro _ w1 ⟨qa, ba, ca, rfl, hsa, hca, hb⟩
  have HBy := Lib.hid (HBx.out.trans (hb.mono HBx.out.size))
  have HSA1 := Lib.hid (hsa.alloc (.cells ([b].map u64v).toArray 25))
  have HL2 := Lib.hid (SlF.lit w1 u64v [b] 25 (fr := (0, 0)))
  have HBz := Lib.hid (HBy.out.alloc HBy.out.size (.cells ([b].map u64v).toArray 25))
  clear hsa hca hb HL1 HBx
  go_wp2_with fail
  refine (bytesK HBB.out HNB.out HL2.out (by simp)).mono ?_
  rintro _ w2 ⟨qb, bb, cb, rfl, hsb, hcb, hb⟩
  have HB2 := Lib.hid (HBz.out.trans (hb.mono HBz.out.size))
  have HSA2 := Lib.hid (HSA1.out.bel hb)
  have HSB2 := Lib.hid hsb
  clear hsb hcb hb HL2 HBz HSA1 HBy
  go_wp2_with fail
  go_loopg [2, 3, 13, 14, 15] n1 (fun gg s2 s3 s13 s14 s15 wr => ∃ (j m k N ba ca bb cb : Nat) (LA LB : List Nat) (qa qb : Option Addr), s2 = .int .i64 j ∧ s3 = .int .i64 m ∧ s15 = .int .i64 k ∧ s13 = .slice qa N ca ∧ s14 = .slice qb N cb ∧ j ≤ 1024 ∧ m ≤ 1024 ∧ k ≤ n1 ∧ n1 - k ≤ gg ∧ 0 < N ∧ Hid (SlF u8v wr qa ba 0 N LA) ∧ Hid (SlF u8v wr qb bb 0 N LB) ∧ Hid (Bytes LA) ∧ Hid (Bytes LB) ∧
    Hid (R = ((decide (LA ≠ LB) && decide (dig LA = dig LB)) || clR (dig LA) (dig LB) j m (P.drop k) (Q.drop k))) ∧ Hid (RowKit.Below w.heap.size w wr))
  case atStart => exact ⟨i, n, 0, N9, ba, ca, bb, cb, LA0, LB0, qa, qb, rfl, rfl, rfl, rfl, rfl, hi, hn, by omega, by omega, h9, HSA2.out, HSB2.out, HYA.out, HYB.out, HR0.out, HB2.out⟩
  case round =>
    clear HSA2 HSB2 HYA HYB HR0 HB2 HNA HNB HBA HBB
    obtain ⟨j, m, k, N, ba, ca, bb, cb, LA, LB, qa, qb, rfl, rfl, rfl, rfl, rfl, hj, hm, hk, hkg, hN, HSA, HSB, HYA, HYB, HR, HB⟩ := hrel
    obtain ⟨x, hx⟩ : ∃ x, x = dig LA := ⟨_, rfl⟩
    obtain ⟨y, hy⟩ : ∃ x, x = dig LB := ⟨_, rfl⟩
    have HX := Lib.hid hx.symm
    have HY := Lib.hid hy.symm
    rw [← hx, ← hy] at HR
    clear hx hy
    go_wp2_with fail
    refine (sumK HX.out HYA.out HSA.out).mono ?_
    rintro _ w3 ⟨rfl, hb⟩
    have HB3 := Lib.hid (HB.out.trans (hb.mono HB.out.size))
    have HSA3 := Lib.hid (HSA.out.bel hb)
    have HSB3 := Lib.hid (HSB.out.bel hb)
    clear hb HSA HSB
    go_wp2_with fail
    refine (sumK HY.out HYB.out HSB3.out).mono ?_
    rintro _ w4 ⟨rfl, hb⟩
    have HB4 := Lib.hid (HB3.out.trans (hb.mono HB3.out.size))
    have HSA4 := Lib.hid (HSA3.out.bel hb)
    have HSB4 := Lib.hid (HSB3.out.bel hb)
    clear hb HSA3 HSB3 HB3 HB
    have hcA := conv_sb (cap := ca) HSA4.out hN
    have hcB := conv_sb (cap := cb) HSB4.out hN
    obtain ⟨sA, hsA⟩ : ∃ s, s = sb LA := ⟨_, rfl⟩
    obtain ⟨sB, hsB⟩ : ∃ s, s = sb LB := ⟨_, rfl⟩
    rw [← hsA] at hcA
    rw [← hsB] at hcB
    have hse : sA = sB ↔ LA = LB := ⟨fun h => sb_inj HYA.out HYB.out (by rw [← hsA, ← hsB, h]), fun h => by rw [hsA, hsB, h]⟩
    have HSE := Lib.hid hse
    clear hsA hsB hse
    by_cases heq : LA = LB
    · have hs := HSE.out.2 heq
      subst hs
      have HR2 : Hid (R = clR x y j m (P.drop k) (Q.drop k)) := by show _ = _; rw [HR.out, heq]; simp
      clear heq HR HSE
      go_wp2_with fail
      go_loopg [2, 3] m (fun gg s2 s3 wq => ∃ (j m : Nat), s2 = .int .i64 j ∧ s3 = .int .i64 m ∧ j ≤ 1024 ∧ m ≤ 1024 ∧ m ≤ gg ∧ Hid (R = clR x y j m (P.drop k) (Q.drop k)) ∧ wq = w4)
      case atStart => exact ⟨j, m, rfl, rfl, hj, hm, Nat.le_refl _, HR2.out, rfl⟩
      case round =>
        clear HR2 hj hm
        obtain ⟨j, m, rfl, rfl, hj, hm, hmg, HR3, rfl⟩ := hrel
        have hjm : (j : Int).tmod 2 = ((j % 2 : Nat) : Int) := by rw [Int.tmod_eq_emod_of_nonneg (by omega)]; omega
        by_cases hm1 : m ≤ 1
        · have E : Hid (R = false) := by show _ = _; rw [HR3.out, clR_short hm1]
          have hz : ¬ (1 : Int) < (m : Int) := by omega
          have hz1 : (m : Int) ≤ 1 := by omega
          clear hjm HR3
          go_wp2
          go_ret
          exact ⟨ret_bool E.out.symm, HB4.out⟩
        have hz : (1 : Int) < (m : Int) := by omega
        have hzd : decide ((1 : Int) < (m : Int)) = true := decide_eq_true hz
        have hz1 : ¬ (m : Int) ≤ 1 := by omega
        have hz1d : decide ((m : Int) ≤ 1) = false := decide_eq_false hz1
        by_cases hodd : j % 2 = 1
        · have hj1b : ((j : Int) % 2 == 0) = false := by rw [beq_eq_false_iff_ne]; omega
          have hj2 : (j : Int) % 2 = 1 := by omega
          clear hjm
          by_cases hk1 : k < n1
          · by_cases hk2 : k < n2
            · have hk1z : ¬ (n1 : Int) ≤ (k : Int) := by omega
              have hk2z : ¬ (n2 : Int) ≤ (k : Int) := by omega
              have hkP : k < P.length := by rw [HPL.out]; exact hk1
              have hkQ : k < Q.length := by rw [HQL.out]; exact hk2
              obtain ⟨c, hc⟩ : ∃ c, c = P[k] := ⟨_, rfl⟩
              obtain ⟨d, hd⟩ : ∃ c, c = Q[k] := ⟨_, rfl⟩
              have HDP : Hid (P.drop k = c :: P.drop (k + 1)) := by show _ = _; rw [hc, List.getElem_cons_drop]
              have HDQ : Hid (Q.drop k = d :: Q.drop (k + 1)) := by show _ = _; rw [hd, List.getElem_cons_drop]
              have hp1 := HP.out.ptr (by omega)
              have hp2 := HQ.out.ptr (by omega)
              have HW0 := Lib.hid HB4.out
              have e1 := (HP.out.bel HB4.out).cells k hkP
              have e2 := (HQ.out.bel HB4.out).cells k hkQ
              rw [← hc] at e1
              rw [← hd] at e2
              unfold u64v at e1 e2
              clear hc hd HW0
              subst hp1
              subst hp2
              have HPA := Lib.hid (blk_pr c x)
              have HPB := Lib.hid (blk_pr d y)
              have HNPA := Lib.hid (HN17.out c x)
              have HNPB := Lib.hid (HN17.out d y)
              have HYPA := Lib.hid (bytes_pr c x)
              have HYPB := Lib.hid (bytes_pr d y)
              have HR4 : Hid (R = ((decide (prB c x ≠ prB d y) && decide (dig (prB c x) = dig (prB d y))) || clR (dig (prB c x)) (dig (prB d y)) (j / 2) ((m + 1) / 2) (P.drop (k + 1)) (Q.drop (k + 1)))) := by
                show _ = _
                rw [HR3.out, HDP.out, HDQ.out, clR_left (by omega) hodd]; rfl
              generalize prB c x = LPA at *
              generalize prB d y = LPB at *
              clear HR3 HDP HDQ
              obtain ⟨j2, hj2⟩ : ∃ z, z = j / 2 := ⟨_, rfl⟩
              obtain ⟨m2, hm2'⟩ : ∃ z, z = (m + 1) / 2 := ⟨_, rfl⟩
              rw [← hj2, ← hm2'] at HR4
              have hj2b : j2 ≤ 1024 := by omega
              have hm2b : m2 ≤ 1024 := by omega
              have hjz : (j : Int) / 2 = (j2 : Int) := by omega
              have hmz : ((m : Int) + 1) / 2 = (m2 : Int) := by omega
              have HJ2 := Lib.hid hj2
              have HM2 := Lib.hid hm2'
              clear hj2 hm2'
              have Hkd := Lib.hid (Kp.of e1 e2 (Below.refl _ _).drew)
              have Hka := Lib.hid (Kp.of e1 e2 ((Below.refl _ _).alloc (Nat.le_refl _) (.cells #[.int .u64 c, .int .u64 x] 25)).drew)
              have Hkb := Lib.hid (Kp.of e1 e2 ((Below.refl _ _).alloc (Nat.le_refl _) (.cells #[.int .u64 d, .int .u64 y] 25)).drew)
              have Hkab := Lib.hid (Kp.of e1 e2 (((Below.refl _ _).alloc (Nat.le_refl _) (.cells #[.int .u64 c, .int .u64 x] 25)).alloc (by simp) (.cells #[.int .u64 d, .int .u64 y] 25)).drew)
              have Hkba := Lib.hid (Kp.of e1 e2 (((Below.refl _ _).alloc (Nat.le_refl _) (.cells #[.int .u64 d, .int .u64 y] 25)).alloc (by simp) (.cells #[.int .u64 c, .int .u64 x] 25)).drew)
              have FA1 := Lib.hid (two_lit wr c x).drew
              have FA2 := Lib.hid ((two_lit wr c x).alloc (.cells #[.int .u64 d, .int .u64 y] 25)).drew
              have FA3 := Lib.hid (two_lit2 wr (.cells #[.int .u64 d, .int .u64 y] 25) c x).drew
              have FA4 := Lib.hid (fun v => two_lit v c x)
              have FB1 := Lib.hid (two_lit wr d y).drew
              have FB2 := Lib.hid ((two_lit wr d y).alloc (.cells #[.int .u64 c, .int .u64 x] 25)).drew
              have FB3 := Lib.hid (two_lit2 wr (.cells #[.int .u64 c, .int .u64 x] 25) d y).drew
              have FB4 := Lib.hid (fun v => two_lit v d y)
              go_wp2_with fail
              go_region_held3 (fun w' => w'.cell? ⟨b1, o1 + k, none⟩ = some (.int .u64 c) ∧ w'.cell? ⟨b2, o2 + k, none⟩ = some (.int .u64 d) ∧ RowKit.Below wr.heap.size wr w')
                (first | with_reducible exact Hkd.out | with_reducible exact Hka.out | with_reducible exact Hkb.out | with_reducible exact Hkab.out | with_reducible exact Hkba.out | ((with_reducible refine Kp.call ?_ ha); (with_reducible assumption)) | ((with_reducible refine Kp.call ?_ hb); (with_reducible assumption)) | ((with_reducible refine Kp.alc ?_); (with_reducible assumption)))
                (first | (go_at_call 23; (with_reducible show Calls _ _ #[_, .slice (some ⟨wr.heap.size, 0, none⟩) _ _] (wr.alloc (.cells #[.int .u64 c, .int .u64 x] 25)).drew _); refine (bytesK1 HPA.out HNPA.out FA1.out).mono ?_; rintro _ va ⟨qva, bva, cva, rfl, hsva, _, ha⟩) | (go_at_call 23; (with_reducible show Calls _ _ #[_, .slice (some ⟨wr.heap.size, 0, none⟩) _ _] ((wr.alloc (.cells #[.int .u64 c, .int .u64 x] 25)).alloc (.cells #[.int .u64 d, .int .u64 y] 25)).drew _); refine (bytesK1 HPA.out HNPA.out FA2.out).mono ?_; rintro _ va ⟨qva, bva, cva, rfl, hsva, _, ha⟩) | (go_at_call 23; (with_reducible show Calls _ _ #[_, .slice (some ⟨wr.heap.size + 1, 0, none⟩) _ _] ((wr.alloc (.cells #[.int .u64 d, .int .u64 y] 25)).alloc (.cells #[.int .u64 c, .int .u64 x] 25)).drew _); refine (bytesK1 HPA.out HNPA.out FA3.out).mono ?_; rintro _ va ⟨qva, bva, cva, rfl, hsva, _, ha⟩) | (go_at_call 23; (with_reducible show Calls _ _ #[_, .slice (some ⟨wr.heap.size, 0, none⟩) _ _] vb _); refine (bytesK1 HPA.out HNPA.out (FA2.out.bel hb)).mono ?_; rintro _ va ⟨qva, bva, cva, rfl, hsva, _, ha⟩) | (go_at_call 23; (with_reducible show Calls _ _ #[_, .slice (some ⟨wr.heap.size + 1, 0, none⟩) _ _] vb _); refine (bytesK1 HPA.out HNPA.out (FA3.out.bel hb)).mono ?_; rintro _ va ⟨qva, bva, cva, rfl, hsva, _, ha⟩) | (go_at_call 23; (with_reducible show Calls _ _ #[_, .slice (some ⟨vb.heap.size, 0, none⟩) _ _] (vb.alloc (.cells #[.int .u64 c, .int .u64 x] 25)) _); refine (bytesK1 HPA.out HNPA.out (FA4.out vb)).mono ?_; rintro _ va ⟨qva, bva, cva, rfl, hsva, _, ha⟩) | (go_at_call 23; (with_reducible show Calls _ _ #[_, .slice (some ⟨wr.heap.size, 0, none⟩) _ _] (wr.alloc (.cells #[.int .u64 d, .int .u64 y] 25)).drew _); refine (bytesK1 HPB.out HNPB.out FB1.out).mono ?_; rintro _ vb ⟨qvb, bvb, cvb, rfl, hsvb, _, hb⟩) | (go_at_call 23; (with_reducible show Calls _ _ #[_, .slice (some ⟨wr.heap.size, 0, none⟩) _ _] ((wr.alloc (.cells #[.int .u64 d, .int .u64 y] 25)).alloc (.cells #[.int .u64 c, .int .u64 x] 25)).drew _); refine (bytesK1 HPB.out HNPB.out FB2.out).mono ?_; rintro _ vb ⟨qvb, bvb, cvb, rfl, hsvb, _, hb⟩) | (go_at_call 23; (with_reducible show Calls _ _ #[_, .slice (some ⟨wr.heap.size + 1, 0, none⟩) _ _] ((wr.alloc (.cells #[.int .u64 c, .int .u64 x] 25)).alloc (.cells #[.int .u64 d, .int .u64 y] 25)).drew _); refine (bytesK1 HPB.out HNPB.out FB3.out).mono ?_; rintro _ vb ⟨qvb, bvb, cvb, rfl, hsvb, _, hb⟩) | (go_at_call 23; (with_reducible show Calls _ _ #[_, .slice (some ⟨wr.heap.size, 0, none⟩) _ _] va _); refine (bytesK1 HPB.out HNPB.out (FB2.out.bel ha)).mono ?_; rintro _ vb ⟨qvb, bvb, cvb, rfl, hsvb, _, hb⟩) | (go_at_call 23; (with_reducible show Calls _ _ #[_, .slice (some ⟨wr.heap.size + 1, 0, none⟩) _ _] va _); refine (bytesK1 HPB.out HNPB.out (FB3.out.bel ha)).mono ?_; rintro _ vb ⟨qvb, bvb, cvb, rfl, hsvb, _, hb⟩) | (go_at_call 23; (with_reducible show Calls _ _ #[_, .slice (some ⟨va.heap.size, 0, none⟩) _ _] (va.alloc (.cells #[.int .u64 d, .int .u64 y] 25)) _); refine (bytesK1 HPB.out HNPB.out (FB4.out va)).mono ?_; rintro _ vb ⟨qvb, bvb, cvb, rfl, hsvb, _, hb⟩))
              all_goals
                first | (have HSX := Lib.hid (hsva.bel hb); have HSY := Lib.hid hsvb; have HBW : Hid (RowKit.Below wr.heap.size wr vb) := (‹_ ∧ _ ∧ RowKit.Below wr.heap.size wr vb›).2.2; clear ha) | (have HSX := Lib.hid ((hsva.alloc _).bel hb); have HSY := Lib.hid hsvb; have HBW : Hid (RowKit.Below wr.heap.size wr vb) := (‹_ ∧ _ ∧ RowKit.Below wr.heap.size wr vb›).2.2; clear ha) | (have HSX := Lib.hid hsva; have HSY := Lib.hid (hsvb.bel ha); have HBW : Hid (RowKit.Below wr.heap.size wr va) := (‹_ ∧ _ ∧ RowKit.Below wr.heap.size wr va›).2.2; clear hb) | (have HSX := Lib.hid hsva; have HSY := Lib.hid ((hsvb.alloc _).bel ha); have HBW : Hid (RowKit.Below wr.heap.size wr va) := (‹_ ∧ _ ∧ RowKit.Below wr.heap.size wr va›).2.2; clear hb)
                have HBW4 := Lib.hid (HB4.out.trans (HBW.out.mono HB4.out.size))
                clear hsva hsvb
                go_wp2
                go_roundg (n1 - (k + 1))
                case measure => omega
                case rel => exact ⟨j2, m2, k + 1, N17, _, _, _, _, LPA, LPB, _, _, by have := HJ2.out; go_num, by have := HM2.out; go_num, by go_num, rfl, rfl, hj2b, hm2b, by omega, by omega, h17, HSX.out, HSY.out, HYPA.out, HYPB.out, HR4.out, HBW4.out⟩
            · have E : Hid (R = false) := by show _ = _; rw [HR3.out, clR_end (.inr (List.drop_eq_nil_of_le (by have := HQL.out; omega)))]
              have hk1z : ¬ (n1 : Int) ≤ (k : Int) := by omega
              have hk1d : decide ((n1 : Int) ≤ (k : Int)) = false := decide_eq_false hk1z
              have hk2z : (n2 : Int) ≤ (k : Int) := by omega
              go_wp2
              go_ret
              exact ⟨ret_bool E.out.symm, HB4.out⟩
          · have E : Hid (R = false) := by show _ = _; rw [HR3.out, clR_end (.inl (List.drop_eq_nil_of_le (by have := HPL.out; omega)))]
            have hk1z : (n1 : Int) ≤ (k : Int) := by omega
            go_wp2
            go_ret
            exact ⟨ret_bool E.out.symm, HB4.out⟩
        · by_cases hbes : j + 1 < m
          · have hbz : ¬ (m : Int) ≤ (j : Int) + 1 := by omega
            have hj2 : (j : Int) % 2 = 0 := by omega
            clear hjm
            by_cases hk1 : k < n1
            · by_cases hk2 : k < n2
              · have hk1z : ¬ (n1 : Int) ≤ (k : Int) := by omega
                have hk2z : ¬ (n2 : Int) ≤ (k : Int) := by omega
                have hkP : k < P.length := by rw [HPL.out]; exact hk1
                have hkQ : k < Q.length := by rw [HQL.out]; exact hk2
                obtain ⟨c, hc⟩ : ∃ c, c = P[k] := ⟨_, rfl⟩
                obtain ⟨d, hd⟩ : ∃ c, c = Q[k] := ⟨_, rfl⟩
                have HDP : Hid (P.drop k = c :: P.drop (k + 1)) := by show _ = _; rw [hc, List.getElem_cons_drop]
                have HDQ : Hid (Q.drop k = d :: Q.drop (k + 1)) := by show _ = _; rw [hd, List.getElem_cons_drop]
                have hp1 := HP.out.ptr (by omega)
                have hp2 := HQ.out.ptr (by omega)
                have HW0 := Lib.hid HB4.out
                have e1 := (HP.out.bel HB4.out).cells k hkP
                have e2 := (HQ.out.bel HB4.out).cells k hkQ
                rw [← hc] at e1
                rw [← hd] at e2
                unfold u64v at e1 e2
                clear hc hd HW0
                subst hp1
                subst hp2
                have HPA := Lib.hid (blk_pr x c)
                have HPB := Lib.hid (blk_pr y d)
                have HNPA := Lib.hid (HN17.out x c)
                have HNPB := Lib.hid (HN17.out y d)
                have HYPA := Lib.hid (bytes_pr x c)
                have HYPB := Lib.hid (bytes_pr y d)
                have HR4 : Hid (R = ((decide (prB x c ≠ prB y d) && decide (dig (prB x c) = dig (prB y d))) || clR (dig (prB x c)) (dig (prB y d)) (j / 2) ((m + 1) / 2) (P.drop (k + 1)) (Q.drop (k + 1)))) := by
                  show _ = _
                  rw [HR3.out, HDP.out, HDQ.out, clR_right hodd hbes]; rfl
                generalize prB x c = LPA at *
                generalize prB y d = LPB at *
                clear HR3 HDP HDQ
                obtain ⟨j2, hj2⟩ : ∃ z, z = j / 2 := ⟨_, rfl⟩
                obtain ⟨m2, hm2'⟩ : ∃ z, z = (m + 1) / 2 := ⟨_, rfl⟩
                rw [← hj2, ← hm2'] at HR4
                have hj2b : j2 ≤ 1024 := by omega
                have hm2b : m2 ≤ 1024 := by omega
                have hjz : (j : Int) / 2 = (j2 : Int) := by omega
                have hmz : ((m : Int) + 1) / 2 = (m2 : Int) := by omega
                have HJ2 := Lib.hid hj2
                have HM2 := Lib.hid hm2'
                clear hj2 hm2'
                have Hkd := Lib.hid (Kp.of e1 e2 (Below.refl _ _).drew)
                have Hka := Lib.hid (Kp.of e1 e2 ((Below.refl _ _).alloc (Nat.le_refl _) (.cells #[.int .u64 x, .int .u64 c] 25)).drew)
                have Hkb := Lib.hid (Kp.of e1 e2 ((Below.refl _ _).alloc (Nat.le_refl _) (.cells #[.int .u64 y, .int .u64 d] 25)).drew)
                have Hkab := Lib.hid (Kp.of e1 e2 (((Below.refl _ _).alloc (Nat.le_refl _) (.cells #[.int .u64 x, .int .u64 c] 25)).alloc (by simp) (.cells #[.int .u64 y, .int .u64 d] 25)).drew)
                have Hkba := Lib.hid (Kp.of e1 e2 (((Below.refl _ _).alloc (Nat.le_refl _) (.cells #[.int .u64 y, .int .u64 d] 25)).alloc (by simp) (.cells #[.int .u64 x, .int .u64 c] 25)).drew)
                have FA1 := Lib.hid (two_lit wr x c).drew
                have FA2 := Lib.hid ((two_lit wr x c).alloc (.cells #[.int .u64 y, .int .u64 d] 25)).drew
                have FA3 := Lib.hid (two_lit2 wr (.cells #[.int .u64 y, .int .u64 d] 25) x c).drew
                have FA4 := Lib.hid (fun v => two_lit v x c)
                have FB1 := Lib.hid (two_lit wr y d).drew
                have FB2 := Lib.hid ((two_lit wr y d).alloc (.cells #[.int .u64 x, .int .u64 c] 25)).drew
                have FB3 := Lib.hid (two_lit2 wr (.cells #[.int .u64 x, .int .u64 c] 25) y d).drew
                have FB4 := Lib.hid (fun v => two_lit v y d)
                go_wp2_with fail
                go_region_held3 (fun w' => w'.cell? ⟨b1, o1 + k, none⟩ = some (.int .u64 c) ∧ w'.cell? ⟨b2, o2 + k, none⟩ = some (.int .u64 d) ∧ RowKit.Below wr.heap.size wr w')
                  (first | with_reducible exact Hkd.out | with_reducible exact Hka.out | with_reducible exact Hkb.out | with_reducible exact Hkab.out | with_reducible exact Hkba.out | ((with_reducible refine Kp.call ?_ ha); (with_reducible assumption)) | ((with_reducible refine Kp.call ?_ hb); (with_reducible assumption)) | ((with_reducible refine Kp.alc ?_); (with_reducible assumption)))
                  (first | (go_at_call 23; (with_reducible show Calls _ _ #[_, .slice (some ⟨wr.heap.size, 0, none⟩) _ _] (wr.alloc (.cells #[.int .u64 x, .int .u64 c] 25)).drew _); refine (bytesK1 HPA.out HNPA.out FA1.out).mono ?_; rintro _ va ⟨qva, bva, cva, rfl, hsva, _, ha⟩) | (go_at_call 23; (with_reducible show Calls _ _ #[_, .slice (some ⟨wr.heap.size, 0, none⟩) _ _] ((wr.alloc (.cells #[.int .u64 x, .int .u64 c] 25)).alloc (.cells #[.int .u64 y, .int .u64 d] 25)).drew _); refine (bytesK1 HPA.out HNPA.out FA2.out).mono ?_; rintro _ va ⟨qva, bva, cva, rfl, hsva, _, ha⟩) | (go_at_call 23; (with_reducible show Calls _ _ #[_, .slice (some ⟨wr.heap.size + 1, 0, none⟩) _ _] ((wr.alloc (.cells #[.int .u64 y, .int .u64 d] 25)).alloc (.cells #[.int .u64 x, .int .u64 c] 25)).drew _); refine (bytesK1 HPA.out HNPA.out FA3.out).mono ?_; rintro _ va ⟨qva, bva, cva, rfl, hsva, _, ha⟩) | (go_at_call 23; (with_reducible show Calls _ _ #[_, .slice (some ⟨wr.heap.size, 0, none⟩) _ _] vb _); refine (bytesK1 HPA.out HNPA.out (FA2.out.bel hb)).mono ?_; rintro _ va ⟨qva, bva, cva, rfl, hsva, _, ha⟩) | (go_at_call 23; (with_reducible show Calls _ _ #[_, .slice (some ⟨wr.heap.size + 1, 0, none⟩) _ _] vb _); refine (bytesK1 HPA.out HNPA.out (FA3.out.bel hb)).mono ?_; rintro _ va ⟨qva, bva, cva, rfl, hsva, _, ha⟩) | (go_at_call 23; (with_reducible show Calls _ _ #[_, .slice (some ⟨vb.heap.size, 0, none⟩) _ _] (vb.alloc (.cells #[.int .u64 x, .int .u64 c] 25)) _); refine (bytesK1 HPA.out HNPA.out (FA4.out vb)).mono ?_; rintro _ va ⟨qva, bva, cva, rfl, hsva, _, ha⟩) | (go_at_call 23; (with_reducible show Calls _ _ #[_, .slice (some ⟨wr.heap.size, 0, none⟩) _ _] (wr.alloc (.cells #[.int .u64 y, .int .u64 d] 25)).drew _); refine (bytesK1 HPB.out HNPB.out FB1.out).mono ?_; rintro _ vb ⟨qvb, bvb, cvb, rfl, hsvb, _, hb⟩) | (go_at_call 23; (with_reducible show Calls _ _ #[_, .slice (some ⟨wr.heap.size, 0, none⟩) _ _] ((wr.alloc (.cells #[.int .u64 y, .int .u64 d] 25)).alloc (.cells #[.int .u64 x, .int .u64 c] 25)).drew _); refine (bytesK1 HPB.out HNPB.out FB2.out).mono ?_; rintro _ vb ⟨qvb, bvb, cvb, rfl, hsvb, _, hb⟩) | (go_at_call 23; (with_reducible show Calls _ _ #[_, .slice (some ⟨wr.heap.size + 1, 0, none⟩) _ _] ((wr.alloc (.cells #[.int .u64 x, .int .u64 c] 25)).alloc (.cells #[.int .u64 y, .int .u64 d] 25)).drew _); refine (bytesK1 HPB.out HNPB.out FB3.out).mono ?_; rintro _ vb ⟨qvb, bvb, cvb, rfl, hsvb, _, hb⟩) | (go_at_call 23; (with_reducible show Calls _ _ #[_, .slice (some ⟨wr.heap.size, 0, none⟩) _ _] va _); refine (bytesK1 HPB.out HNPB.out (FB2.out.bel ha)).mono ?_; rintro _ vb ⟨qvb, bvb, cvb, rfl, hsvb, _, hb⟩) | (go_at_call 23; (with_reducible show Calls _ _ #[_, .slice (some ⟨wr.heap.size + 1, 0, none⟩) _ _] va _); refine (bytesK1 HPB.out HNPB.out (FB3.out.bel ha)).mono ?_; rintro _ vb ⟨qvb, bvb, cvb, rfl, hsvb, _, hb⟩) | (go_at_call 23; (with_reducible show Calls _ _ #[_, .slice (some ⟨va.heap.size, 0, none⟩) _ _] (va.alloc (.cells #[.int .u64 y, .int .u64 d] 25)) _); refine (bytesK1 HPB.out HNPB.out (FB4.out va)).mono ?_; rintro _ vb ⟨qvb, bvb, cvb, rfl, hsvb, _, hb⟩))
                all_goals
                  first | (have HSX := Lib.hid (hsva.bel hb); have HSY := Lib.hid hsvb; have HBW : Hid (RowKit.Below wr.heap.size wr vb) := (‹_ ∧ _ ∧ RowKit.Below wr.heap.size wr vb›).2.2; clear ha) | (have HSX := Lib.hid ((hsva.alloc _).bel hb); have HSY := Lib.hid hsvb; have HBW : Hid (RowKit.Below wr.heap.size wr vb) := (‹_ ∧ _ ∧ RowKit.Below wr.heap.size wr vb›).2.2; clear ha) | (have HSX := Lib.hid hsva; have HSY := Lib.hid (hsvb.bel ha); have HBW : Hid (RowKit.Below wr.heap.size wr va) := (‹_ ∧ _ ∧ RowKit.Below wr.heap.size wr va›).2.2; clear hb) | (have HSX := Lib.hid hsva; have HSY := Lib.hid ((hsvb.alloc _).bel ha); have HBW : Hid (RowKit.Below wr.heap.size wr va) := (‹_ ∧ _ ∧ RowKit.Below wr.heap.size wr va›).2.2; clear hb)
                  have HBW4 := Lib.hid (HB4.out.trans (HBW.out.mono HB4.out.size))
                  clear hsva hsvb
                  go_wp2
                  go_roundg (n1 - (k + 1))
                  case measure => omega
                  case rel => exact ⟨j2, m2, k + 1, N17, _, _, _, _, LPA, LPB, _, _, by have := HJ2.out; go_num, by have := HM2.out; go_num, by go_num, rfl, rfl, hj2b, hm2b, by omega, by omega, h17, HSX.out, HSY.out, HYPA.out, HYPB.out, HR4.out, HBW4.out⟩
              · have E : Hid (R = false) := by show _ = _; rw [HR3.out, clR_end (.inr (List.drop_eq_nil_of_le (by have := HQL.out; omega)))]
                have hk1z : ¬ (n1 : Int) ≤ (k : Int) := by omega
                have hk1d : decide ((n1 : Int) ≤ (k : Int)) = false := decide_eq_false hk1z
                have hk2z : (n2 : Int) ≤ (k : Int) := by omega
                go_wp2
                go_ret
                exact ⟨ret_bool E.out.symm, HB4.out⟩
            · have E : Hid (R = false) := by show _ = _; rw [HR3.out, clR_end (.inl (List.drop_eq_nil_of_le (by have := HPL.out; omega)))]
              have hk1z : (n1 : Int) ≤ (k : Int) := by omega
              go_wp2
              go_ret
              exact ⟨ret_bool E.out.symm, HB4.out⟩
          · have hbz : (m : Int) ≤ (j : Int) + 1 := by omega
            have hj2 : (j : Int) % 2 = 0 := by omega
            have HR4 : Hid (R = clR x y (j / 2) ((m + 1) / 2) (P.drop k) (Q.drop k)) := by show _ = _; rw [HR3.out, clR_skip (by omega) hodd hbes]
            obtain ⟨j2, hj2'⟩ : ∃ z, z = j / 2 := ⟨_, rfl⟩
            obtain ⟨m2, hm2'⟩ : ∃ z, z = (m + 1) / 2 := ⟨_, rfl⟩
            rw [← hj2', ← hm2'] at HR4
            have hj2b : j2 ≤ 1024 := by omega
            have hm2b : m2 ≤ 1024 := by omega
            have hm2c : m2 < m := by omega
            have HJ2 := Lib.hid hj2'
            have HM2 := Lib.hid hm2'
            clear hj2' hm2' hjm
            go_wp2
            go_roundg m2
            case measure => omega
            case rel => exact ⟨j2, m2, by have := HJ2.out; go_num, by have := HM2.out; go_num, hj2b, hm2b, Nat.le_refl _, HR4.out, rfl⟩
    · have hs : ¬ sA = sB := fun h => heq (HSE.out.1 h)
      have hst : ¬ sA.toList = sB.toList := fun h => hs (by rw [ByteArray.toList_eq, ByteArray.toList_eq] at h; exact ByteArray.ext (Array.toList_inj.1 h))
      have hstb : (sA.toList == sB.toList) = false := by rw [beq_eq_false_iff_ne]; exact hst
      by_cases hxy : x = y
      · have E : Hid (R = true) := by show _ = _; rw [HR.out, decide_eq_true heq, decide_eq_true hxy]; rfl
        subst hxy
        clear heq HR HSE
        go_wp2
        go_ret
        exact ⟨ret_bool E.out.symm, HB4.out⟩
      · have hxyb : ((x : Int) == (y : Int)) = false := by rw [beq_eq_false_iff_ne]; omega
        have HR2 : Hid (R = clR x y j m (P.drop k) (Q.drop k)) := by show _ = _; rw [HR.out, decide_eq_false hxy]; simp
        clear heq HR HSE
        go_wp2_with fail
        go_loopg [2, 3] m (fun gg s2 s3 wq => ∃ (j m : Nat), s2 = .int .i64 j ∧ s3 = .int .i64 m ∧ j ≤ 1024 ∧ m ≤ 1024 ∧ m ≤ gg ∧ Hid (R = clR x y j m (P.drop k) (Q.drop k)) ∧ wq = w4)
        case atStart => exact ⟨j, m, rfl, rfl, hj, hm, Nat.le_refl _, HR2.out, rfl⟩
        case round =>
          clear HR2 hj hm
          obtain ⟨j, m, rfl, rfl, hj, hm, hmg, HR3, rfl⟩ := hrel
          have hjm : (j : Int).tmod 2 = ((j % 2 : Nat) : Int) := by rw [Int.tmod_eq_emod_of_nonneg (by omega)]; omega
          by_cases hm1 : m ≤ 1
          · have E : Hid (R = false) := by show _ = _; rw [HR3.out, clR_short hm1]
            have hz : ¬ (1 : Int) < (m : Int) := by omega
            have hz1 : (m : Int) ≤ 1 := by omega
            clear hjm HR3
            go_wp2
            go_ret
            exact ⟨ret_bool E.out.symm, HB4.out⟩
          have hz : (1 : Int) < (m : Int) := by omega
          have hzd : decide ((1 : Int) < (m : Int)) = true := decide_eq_true hz
          have hz1 : ¬ (m : Int) ≤ 1 := by omega
          have hz1d : decide ((m : Int) ≤ 1) = false := decide_eq_false hz1
          by_cases hodd : j % 2 = 1
          · have hj1b : ((j : Int) % 2 == 0) = false := by rw [beq_eq_false_iff_ne]; omega
            have hj2 : (j : Int) % 2 = 1 := by omega
            clear hjm
            by_cases hk1 : k < n1
            · by_cases hk2 : k < n2
              · have hk1z : ¬ (n1 : Int) ≤ (k : Int) := by omega
                have hk2z : ¬ (n2 : Int) ≤ (k : Int) := by omega
                have hkP : k < P.length := by rw [HPL.out]; exact hk1
                have hkQ : k < Q.length := by rw [HQL.out]; exact hk2
                obtain ⟨c, hc⟩ : ∃ c, c = P[k] := ⟨_, rfl⟩
                obtain ⟨d, hd⟩ : ∃ c, c = Q[k] := ⟨_, rfl⟩
                have HDP : Hid (P.drop k = c :: P.drop (k + 1)) := by show _ = _; rw [hc, List.getElem_cons_drop]
                have HDQ : Hid (Q.drop k = d :: Q.drop (k + 1)) := by show _ = _; rw [hd, List.getElem_cons_drop]
                have hp1 := HP.out.ptr (by omega)
                have hp2 := HQ.out.ptr (by omega)
                have HW0 := Lib.hid HB4.out
                have e1 := (HP.out.bel HB4.out).cells k hkP
                have e2 := (HQ.out.bel HB4.out).cells k hkQ
                rw [← hc] at e1
                rw [← hd] at e2
                unfold u64v at e1 e2
                clear hc hd HW0
                subst hp1
                subst hp2
                have HPA := Lib.hid (blk_pr c x)
                have HPB := Lib.hid (blk_pr d y)
                have HNPA := Lib.hid (HN17.out c x)
                have HNPB := Lib.hid (HN17.out d y)
                have HYPA := Lib.hid (bytes_pr c x)
                have HYPB := Lib.hid (bytes_pr d y)
                have HR4 : Hid (R = ((decide (prB c x ≠ prB d y) && decide (dig (prB c x) = dig (prB d y))) || clR (dig (prB c x)) (dig (prB d y)) (j / 2) ((m + 1) / 2) (P.drop (k + 1)) (Q.drop (k + 1)))) := by
                  show _ = _
                  rw [HR3.out, HDP.out, HDQ.out, clR_left (by omega) hodd]; rfl
                generalize prB c x = LPA at *
                generalize prB d y = LPB at *
                clear HR3 HDP HDQ
                obtain ⟨j2, hj2⟩ : ∃ z, z = j / 2 := ⟨_, rfl⟩
                obtain ⟨m2, hm2'⟩ : ∃ z, z = (m + 1) / 2 := ⟨_, rfl⟩
                rw [← hj2, ← hm2'] at HR4
                have hj2b : j2 ≤ 1024 := by omega
                have hm2b : m2 ≤ 1024 := by omega
                have hjz : (j : Int) / 2 = (j2 : Int) := by omega
                have hmz : ((m : Int) + 1) / 2 = (m2 : Int) := by omega
                have HJ2 := Lib.hid hj2
                have HM2 := Lib.hid hm2'
                clear hj2 hm2'
                have Hkd := Lib.hid (Kp.of e1 e2 (Below.refl _ _).drew)
                have Hka := Lib.hid (Kp.of e1 e2 ((Below.refl _ _).alloc (Nat.le_refl _) (.cells #[.int .u64 c, .int .u64 x] 25)).drew)
                have Hkb := Lib.hid (Kp.of e1 e2 ((Below.refl _ _).alloc (Nat.le_refl _) (.cells #[.int .u64 d, .int .u64 y] 25)).drew)
                have Hkab := Lib.hid (Kp.of e1 e2 (((Below.refl _ _).alloc (Nat.le_refl _) (.cells #[.int .u64 c, .int .u64 x] 25)).alloc (by simp) (.cells #[.int .u64 d, .int .u64 y] 25)).drew)
                have Hkba := Lib.hid (Kp.of e1 e2 (((Below.refl _ _).alloc (Nat.le_refl _) (.cells #[.int .u64 d, .int .u64 y] 25)).alloc (by simp) (.cells #[.int .u64 c, .int .u64 x] 25)).drew)
                have FA1 := Lib.hid (two_lit wr c x).drew
                have FA2 := Lib.hid ((two_lit wr c x).alloc (.cells #[.int .u64 d, .int .u64 y] 25)).drew
                have FA3 := Lib.hid (two_lit2 wr (.cells #[.int .u64 d, .int .u64 y] 25) c x).drew
                have FA4 := Lib.hid (fun v => two_lit v c x)
                have FB1 := Lib.hid (two_lit wr d y).drew
                have FB2 := Lib.hid ((two_lit wr d y).alloc (.cells #[.int .u64 c, .int .u64 x] 25)).drew
                have FB3 := Lib.hid (two_lit2 wr (.cells #[.int .u64 c, .int .u64 x] 25) d y).drew
                have FB4 := Lib.hid (fun v => two_lit v d y)
                go_wp2_with fail
                go_region_held3 (fun w' => w'.cell? ⟨b1, o1 + k, none⟩ = some (.int .u64 c) ∧ w'.cell? ⟨b2, o2 + k, none⟩ = some (.int .u64 d) ∧ RowKit.Below wr.heap.size wr w')
                  (first | with_reducible exact Hkd.out | with_reducible exact Hka.out | with_reducible exact Hkb.out | with_reducible exact Hkab.out | with_reducible exact Hkba.out | ((with_reducible refine Kp.call ?_ ha); (with_reducible assumption)) | ((with_reducible refine Kp.call ?_ hb); (with_reducible assumption)) | ((with_reducible refine Kp.alc ?_); (with_reducible assumption)))
                  (first | (go_at_call 23; (with_reducible show Calls _ _ #[_, .slice (some ⟨wr.heap.size, 0, none⟩) _ _] (wr.alloc (.cells #[.int .u64 c, .int .u64 x] 25)).drew _); refine (bytesK1 HPA.out HNPA.out FA1.out).mono ?_; rintro _ va ⟨qva, bva, cva, rfl, hsva, _, ha⟩) | (go_at_call 23; (with_reducible show Calls _ _ #[_, .slice (some ⟨wr.heap.size, 0, none⟩) _ _] ((wr.alloc (.cells #[.int .u64 c, .int .u64 x] 25)).alloc (.cells #[.int .u64 d, .int .u64 y] 25)).drew _); refine (bytesK1 HPA.out HNPA.out FA2.out).mono ?_; rintro _ va ⟨qva, bva, cva, rfl, hsva, _, ha⟩) | (go_at_call 23; (with_reducible show Calls _ _ #[_, .slice (some ⟨wr.heap.size + 1, 0, none⟩) _ _] ((wr.alloc (.cells #[.int .u64 d, .int .u64 y] 25)).alloc (.cells #[.int .u64 c, .int .u64 x] 25)).drew _); refine (bytesK1 HPA.out HNPA.out FA3.out).mono ?_; rintro _ va ⟨qva, bva, cva, rfl, hsva, _, ha⟩) | (go_at_call 23; (with_reducible show Calls _ _ #[_, .slice (some ⟨wr.heap.size, 0, none⟩) _ _] vb _); refine (bytesK1 HPA.out HNPA.out (FA2.out.bel hb)).mono ?_; rintro _ va ⟨qva, bva, cva, rfl, hsva, _, ha⟩) | (go_at_call 23; (with_reducible show Calls _ _ #[_, .slice (some ⟨wr.heap.size + 1, 0, none⟩) _ _] vb _); refine (bytesK1 HPA.out HNPA.out (FA3.out.bel hb)).mono ?_; rintro _ va ⟨qva, bva, cva, rfl, hsva, _, ha⟩) | (go_at_call 23; (with_reducible show Calls _ _ #[_, .slice (some ⟨vb.heap.size, 0, none⟩) _ _] (vb.alloc (.cells #[.int .u64 c, .int .u64 x] 25)) _); refine (bytesK1 HPA.out HNPA.out (FA4.out vb)).mono ?_; rintro _ va ⟨qva, bva, cva, rfl, hsva, _, ha⟩) | (go_at_call 23; (with_reducible show Calls _ _ #[_, .slice (some ⟨wr.heap.size, 0, none⟩) _ _] (wr.alloc (.cells #[.int .u64 d, .int .u64 y] 25)).drew _); refine (bytesK1 HPB.out HNPB.out FB1.out).mono ?_; rintro _ vb ⟨qvb, bvb, cvb, rfl, hsvb, _, hb⟩) | (go_at_call 23; (with_reducible show Calls _ _ #[_, .slice (some ⟨wr.heap.size, 0, none⟩) _ _] ((wr.alloc (.cells #[.int .u64 d, .int .u64 y] 25)).alloc (.cells #[.int .u64 c, .int .u64 x] 25)).drew _); refine (bytesK1 HPB.out HNPB.out FB2.out).mono ?_; rintro _ vb ⟨qvb, bvb, cvb, rfl, hsvb, _, hb⟩) | (go_at_call 23; (with_reducible show Calls _ _ #[_, .slice (some ⟨wr.heap.size + 1, 0, none⟩) _ _] ((wr.alloc (.cells #[.int .u64 c, .int .u64 x] 25)).alloc (.cells #[.int .u64 d, .int .u64 y] 25)).drew _); refine (bytesK1 HPB.out HNPB.out FB3.out).mono ?_; rintro _ vb ⟨qvb, bvb, cvb, rfl, hsvb, _, hb⟩) | (go_at_call 23; (with_reducible show Calls _ _ #[_, .slice (some ⟨wr.heap.size, 0, none⟩) _ _] va _); refine (bytesK1 HPB.out HNPB.out (FB2.out.bel ha)).mono ?_; rintro _ vb ⟨qvb, bvb, cvb, rfl, hsvb, _, hb⟩) | (go_at_call 23; (with_reducible show Calls _ _ #[_, .slice (some ⟨wr.heap.size + 1, 0, none⟩) _ _] va _); refine (bytesK1 HPB.out HNPB.out (FB3.out.bel ha)).mono ?_; rintro _ vb ⟨qvb, bvb, cvb, rfl, hsvb, _, hb⟩) | (go_at_call 23; (with_reducible show Calls _ _ #[_, .slice (some ⟨va.heap.size, 0, none⟩) _ _] (va.alloc (.cells #[.int .u64 d, .int .u64 y] 25)) _); refine (bytesK1 HPB.out HNPB.out (FB4.out va)).mono ?_; rintro _ vb ⟨qvb, bvb, cvb, rfl, hsvb, _, hb⟩))
                all_goals
                  first | (have HSX := Lib.hid (hsva.bel hb); have HSY := Lib.hid hsvb; have HBW : Hid (RowKit.Below wr.heap.size wr vb) := (‹_ ∧ _ ∧ RowKit.Below wr.heap.size wr vb›).2.2; clear ha) | (have HSX := Lib.hid ((hsva.alloc _).bel hb); have HSY := Lib.hid hsvb; have HBW : Hid (RowKit.Below wr.heap.size wr vb) := (‹_ ∧ _ ∧ RowKit.Below wr.heap.size wr vb›).2.2; clear ha) | (have HSX := Lib.hid hsva; have HSY := Lib.hid (hsvb.bel ha); have HBW : Hid (RowKit.Below wr.heap.size wr va) := (‹_ ∧ _ ∧ RowKit.Below wr.heap.size wr va›).2.2; clear hb) | (have HSX := Lib.hid hsva; have HSY := Lib.hid ((hsvb.alloc _).bel ha); have HBW : Hid (RowKit.Below wr.heap.size wr va) := (‹_ ∧ _ ∧ RowKit.Below wr.heap.size wr va›).2.2; clear hb)
                  have HBW4 := Lib.hid (HB4.out.trans (HBW.out.mono HB4.out.size))
                  clear hsva hsvb
                  go_wp2
                  go_roundg (n1 - (k + 1))
                  case measure => omega
                  case rel => exact ⟨j2, m2, k + 1, N17, _, _, _, _, LPA, LPB, _, _, by have := HJ2.out; go_num, by have := HM2.out; go_num, by go_num, rfl, rfl, hj2b, hm2b, by omega, by omega, h17, HSX.out, HSY.out, HYPA.out, HYPB.out, HR4.out, HBW4.out⟩
              · have E : Hid (R = false) := by show _ = _; rw [HR3.out, clR_end (.inr (List.drop_eq_nil_of_le (by have := HQL.out; omega)))]
                have hk1z : ¬ (n1 : Int) ≤ (k : Int) := by omega
                have hk1d : decide ((n1 : Int) ≤ (k : Int)) = false := decide_eq_false hk1z
                have hk2z : (n2 : Int) ≤ (k : Int) := by omega
                go_wp2
                go_ret
                exact ⟨ret_bool E.out.symm, HB4.out⟩
            · have E : Hid (R = false) := by show _ = _; rw [HR3.out, clR_end (.inl (List.drop_eq_nil_of_le (by have := HPL.out; omega)))]
              have hk1z : (n1 : Int) ≤ (k : Int) := by omega
              go_wp2
              go_ret
              exact ⟨ret_bool E.out.symm, HB4.out⟩
          · by_cases hbes : j + 1 < m
            · have hbz : ¬ (m : Int) ≤ (j : Int) + 1 := by omega
              have hj2 : (j : Int) % 2 = 0 := by omega
              clear hjm
              by_cases hk1 : k < n1
              · by_cases hk2 : k < n2
                · have hk1z : ¬ (n1 : Int) ≤ (k : Int) := by omega
                  have hk2z : ¬ (n2 : Int) ≤ (k : Int) := by omega
                  have hkP : k < P.length := by rw [HPL.out]; exact hk1
                  have hkQ : k < Q.length := by rw [HQL.out]; exact hk2
                  obtain ⟨c, hc⟩ : ∃ c, c = P[k] := ⟨_, rfl⟩
                  obtain ⟨d, hd⟩ : ∃ c, c = Q[k] := ⟨_, rfl⟩
                  have HDP : Hid (P.drop k = c :: P.drop (k + 1)) := by show _ = _; rw [hc, List.getElem_cons_drop]
                  have HDQ : Hid (Q.drop k = d :: Q.drop (k + 1)) := by show _ = _; rw [hd, List.getElem_cons_drop]
                  have hp1 := HP.out.ptr (by omega)
                  have hp2 := HQ.out.ptr (by omega)
                  have HW0 := Lib.hid HB4.out
                  have e1 := (HP.out.bel HB4.out).cells k hkP
                  have e2 := (HQ.out.bel HB4.out).cells k hkQ
                  rw [← hc] at e1
                  rw [← hd] at e2
                  unfold u64v at e1 e2
                  clear hc hd HW0
                  subst hp1
                  subst hp2
                  have HPA := Lib.hid (blk_pr x c)
                  have HPB := Lib.hid (blk_pr y d)
                  have HNPA := Lib.hid (HN17.out x c)
                  have HNPB := Lib.hid (HN17.out y d)
                  have HYPA := Lib.hid (bytes_pr x c)
                  have HYPB := Lib.hid (bytes_pr y d)
                  have HR4 : Hid (R = ((decide (prB x c ≠ prB y d) && decide (dig (prB x c) = dig (prB y d))) || clR (dig (prB x c)) (dig (prB y d)) (j / 2) ((m + 1) / 2) (P.drop (k + 1)) (Q.drop (k + 1)))) := by
                    show _ = _
                    rw [HR3.out, HDP.out, HDQ.out, clR_right hodd hbes]; rfl
                  generalize prB x c = LPA at *
                  generalize prB y d = LPB at *
                  clear HR3 HDP HDQ
                  obtain ⟨j2, hj2⟩ : ∃ z, z = j / 2 := ⟨_, rfl⟩
                  obtain ⟨m2, hm2'⟩ : ∃ z, z = (m + 1) / 2 := ⟨_, rfl⟩
                  rw [← hj2, ← hm2'] at HR4
                  have hj2b : j2 ≤ 1024 := by omega
                  have hm2b : m2 ≤ 1024 := by omega
                  have hjz : (j : Int) / 2 = (j2 : Int) := by omega
                  have hmz : ((m : Int) + 1) / 2 = (m2 : Int) := by omega
                  have HJ2 := Lib.hid hj2
                  have HM2 := Lib.hid hm2'
                  clear hj2 hm2'
                  have Hkd := Lib.hid (Kp.of e1 e2 (Below.refl _ _).drew)
                  have Hka := Lib.hid (Kp.of e1 e2 ((Below.refl _ _).alloc (Nat.le_refl _) (.cells #[.int .u64 x, .int .u64 c] 25)).drew)
                  have Hkb := Lib.hid (Kp.of e1 e2 ((Below.refl _ _).alloc (Nat.le_refl _) (.cells #[.int .u64 y, .int .u64 d] 25)).drew)
                  have Hkab := Lib.hid (Kp.of e1 e2 (((Below.refl _ _).alloc (Nat.le_refl _) (.cells #[.int .u64 x, .int .u64 c] 25)).alloc (by simp) (.cells #[.int .u64 y, .int .u64 d] 25)).drew)
                  have Hkba := Lib.hid (Kp.of e1 e2 (((Below.refl _ _).alloc (Nat.le_refl _) (.cells #[.int .u64 y, .int .u64 d] 25)).alloc (by simp) (.cells #[.int .u64 x, .int .u64 c] 25)).drew)
                  have FA1 := Lib.hid (two_lit wr x c).drew
                  have FA2 := Lib.hid ((two_lit wr x c).alloc (.cells #[.int .u64 y, .int .u64 d] 25)).drew
                  have FA3 := Lib.hid (two_lit2 wr (.cells #[.int .u64 y, .int .u64 d] 25) x c).drew
                  have FA4 := Lib.hid (fun v => two_lit v x c)
                  have FB1 := Lib.hid (two_lit wr y d).drew
                  have FB2 := Lib.hid ((two_lit wr y d).alloc (.cells #[.int .u64 x, .int .u64 c] 25)).drew
                  have FB3 := Lib.hid (two_lit2 wr (.cells #[.int .u64 x, .int .u64 c] 25) y d).drew
                  have FB4 := Lib.hid (fun v => two_lit v y d)
                  go_wp2_with fail
                  go_region_held3 (fun w' => w'.cell? ⟨b1, o1 + k, none⟩ = some (.int .u64 c) ∧ w'.cell? ⟨b2, o2 + k, none⟩ = some (.int .u64 d) ∧ RowKit.Below wr.heap.size wr w')
                    (first | with_reducible exact Hkd.out | with_reducible exact Hka.out | with_reducible exact Hkb.out | with_reducible exact Hkab.out | with_reducible exact Hkba.out | ((with_reducible refine Kp.call ?_ ha); (with_reducible assumption)) | ((with_reducible refine Kp.call ?_ hb); (with_reducible assumption)) | ((with_reducible refine Kp.alc ?_); (with_reducible assumption)))
                    (first | (go_at_call 23; (with_reducible show Calls _ _ #[_, .slice (some ⟨wr.heap.size, 0, none⟩) _ _] (wr.alloc (.cells #[.int .u64 x, .int .u64 c] 25)).drew _); refine (bytesK1 HPA.out HNPA.out FA1.out).mono ?_; rintro _ va ⟨qva, bva, cva, rfl, hsva, _, ha⟩) | (go_at_call 23; (with_reducible show Calls _ _ #[_, .slice (some ⟨wr.heap.size, 0, none⟩) _ _] ((wr.alloc (.cells #[.int .u64 x, .int .u64 c] 25)).alloc (.cells #[.int .u64 y, .int .u64 d] 25)).drew _); refine (bytesK1 HPA.out HNPA.out FA2.out).mono ?_; rintro _ va ⟨qva, bva, cva, rfl, hsva, _, ha⟩) | (go_at_call 23; (with_reducible show Calls _ _ #[_, .slice (some ⟨wr.heap.size + 1, 0, none⟩) _ _] ((wr.alloc (.cells #[.int .u64 y, .int .u64 d] 25)).alloc (.cells #[.int .u64 x, .int .u64 c] 25)).drew _); refine (bytesK1 HPA.out HNPA.out FA3.out).mono ?_; rintro _ va ⟨qva, bva, cva, rfl, hsva, _, ha⟩) | (go_at_call 23; (with_reducible show Calls _ _ #[_, .slice (some ⟨wr.heap.size, 0, none⟩) _ _] vb _); refine (bytesK1 HPA.out HNPA.out (FA2.out.bel hb)).mono ?_; rintro _ va ⟨qva, bva, cva, rfl, hsva, _, ha⟩) | (go_at_call 23; (with_reducible show Calls _ _ #[_, .slice (some ⟨wr.heap.size + 1, 0, none⟩) _ _] vb _); refine (bytesK1 HPA.out HNPA.out (FA3.out.bel hb)).mono ?_; rintro _ va ⟨qva, bva, cva, rfl, hsva, _, ha⟩) | (go_at_call 23; (with_reducible show Calls _ _ #[_, .slice (some ⟨vb.heap.size, 0, none⟩) _ _] (vb.alloc (.cells #[.int .u64 x, .int .u64 c] 25)) _); refine (bytesK1 HPA.out HNPA.out (FA4.out vb)).mono ?_; rintro _ va ⟨qva, bva, cva, rfl, hsva, _, ha⟩) | (go_at_call 23; (with_reducible show Calls _ _ #[_, .slice (some ⟨wr.heap.size, 0, none⟩) _ _] (wr.alloc (.cells #[.int .u64 y, .int .u64 d] 25)).drew _); refine (bytesK1 HPB.out HNPB.out FB1.out).mono ?_; rintro _ vb ⟨qvb, bvb, cvb, rfl, hsvb, _, hb⟩) | (go_at_call 23; (with_reducible show Calls _ _ #[_, .slice (some ⟨wr.heap.size, 0, none⟩) _ _] ((wr.alloc (.cells #[.int .u64 y, .int .u64 d] 25)).alloc (.cells #[.int .u64 x, .int .u64 c] 25)).drew _); refine (bytesK1 HPB.out HNPB.out FB2.out).mono ?_; rintro _ vb ⟨qvb, bvb, cvb, rfl, hsvb, _, hb⟩) | (go_at_call 23; (with_reducible show Calls _ _ #[_, .slice (some ⟨wr.heap.size + 1, 0, none⟩) _ _] ((wr.alloc (.cells #[.int .u64 x, .int .u64 c] 25)).alloc (.cells #[.int .u64 y, .int .u64 d] 25)).drew _); refine (bytesK1 HPB.out HNPB.out FB3.out).mono ?_; rintro _ vb ⟨qvb, bvb, cvb, rfl, hsvb, _, hb⟩) | (go_at_call 23; (with_reducible show Calls _ _ #[_, .slice (some ⟨wr.heap.size, 0, none⟩) _ _] va _); refine (bytesK1 HPB.out HNPB.out (FB2.out.bel ha)).mono ?_; rintro _ vb ⟨qvb, bvb, cvb, rfl, hsvb, _, hb⟩) | (go_at_call 23; (with_reducible show Calls _ _ #[_, .slice (some ⟨wr.heap.size + 1, 0, none⟩) _ _] va _); refine (bytesK1 HPB.out HNPB.out (FB3.out.bel ha)).mono ?_; rintro _ vb ⟨qvb, bvb, cvb, rfl, hsvb, _, hb⟩) | (go_at_call 23; (with_reducible show Calls _ _ #[_, .slice (some ⟨va.heap.size, 0, none⟩) _ _] (va.alloc (.cells #[.int .u64 y, .int .u64 d] 25)) _); refine (bytesK1 HPB.out HNPB.out (FB4.out va)).mono ?_; rintro _ vb ⟨qvb, bvb, cvb, rfl, hsvb, _, hb⟩))
                  all_goals
                    first | (have HSX := Lib.hid (hsva.bel hb); have HSY := Lib.hid hsvb; have HBW : Hid (RowKit.Below wr.heap.size wr vb) := (‹_ ∧ _ ∧ RowKit.Below wr.heap.size wr vb›).2.2; clear ha) | (have HSX := Lib.hid ((hsva.alloc _).bel hb); have HSY := Lib.hid hsvb; have HBW : Hid (RowKit.Below wr.heap.size wr vb) := (‹_ ∧ _ ∧ RowKit.Below wr.heap.size wr vb›).2.2; clear ha) | (have HSX := Lib.hid hsva; have HSY := Lib.hid (hsvb.bel ha); have HBW : Hid (RowKit.Below wr.heap.size wr va) := (‹_ ∧ _ ∧ RowKit.Below wr.heap.size wr va›).2.2; clear hb) | (have HSX := Lib.hid hsva; have HSY := Lib.hid ((hsvb.alloc _).bel ha); have HBW : Hid (RowKit.Below wr.heap.size wr va) := (‹_ ∧ _ ∧ RowKit.Below wr.heap.size wr va›).2.2; clear hb)
                    have HBW4 := Lib.hid (HB4.out.trans (HBW.out.mono HB4.out.size))
                    clear hsva hsvb
                    go_wp2
                    go_roundg (n1 - (k + 1))
                    case measure => omega
                    case rel => exact ⟨j2, m2, k + 1, N17, _, _, _, _, LPA, LPB, _, _, by have := HJ2.out; go_num, by have := HM2.out; go_num, by go_num, rfl, rfl, hj2b, hm2b, by omega, by omega, h17, HSX.out, HSY.out, HYPA.out, HYPB.out, HR4.out, HBW4.out⟩
                · have E : Hid (R = false) := by show _ = _; rw [HR3.out, clR_end (.inr (List.drop_eq_nil_of_le (by have := HQL.out; omega)))]
                  have hk1z : ¬ (n1 : Int) ≤ (k : Int) := by omega
                  have hk1d : decide ((n1 : Int) ≤ (k : Int)) = false := decide_eq_false hk1z
                  have hk2z : (n2 : Int) ≤ (k : Int) := by omega
                  go_wp2
                  go_ret
                  exact ⟨ret_bool E.out.symm, HB4.out⟩
              · have E : Hid (R = false) := by show _ = _; rw [HR3.out, clR_end (.inl (List.drop_eq_nil_of_le (by have := HPL.out; omega)))]
                have hk1z : (n1 : Int) ≤ (k : Int) := by omega
                go_wp2
                go_ret
                exact ⟨ret_bool E.out.symm, HB4.out⟩
            · have hbz : (m : Int) ≤ (j : Int) + 1 := by omega
              have hj2 : (j : Int) % 2 = 0 := by omega
              have HR4 : Hid (R = clR x y (j / 2) ((m + 1) / 2) (P.drop k) (Q.drop k)) := by show _ = _; rw [HR3.out, clR_skip (by omega) hodd hbes]
              obtain ⟨j2, hj2'⟩ : ∃ z, z = j / 2 := ⟨_, rfl⟩
              obtain ⟨m2, hm2'⟩ : ∃ z, z = (m + 1) / 2 := ⟨_, rfl⟩
              rw [← hj2', ← hm2'] at HR4
              have hj2b : j2 ≤ 1024 := by omega
              have hm2b : m2 ≤ 1024 := by omega
              have hm2c : m2 < m := by omega
              have HJ2 := Lib.hid hj2'
              have HM2 := Lib.hid hm2'
              clear hj2' hm2' hjm
              go_wp2
              go_roundg m2
              case measure => omega
              case rel => exact ⟨j2, m2, by have := HJ2.out; go_num, by have := HM2.out; go_num, hj2b, hm2b, Nat.le_refl _, HR4.out, rfl⟩
end Go.Proofs.YtlbaggljmbkfdaaDoor
