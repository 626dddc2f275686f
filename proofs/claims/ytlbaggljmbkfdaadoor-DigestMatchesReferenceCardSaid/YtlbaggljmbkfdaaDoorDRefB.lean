/-
  The reference's levels: contracts of tree, first, up.
-/
import Derived.Test.YtlbaggljmbkfdaaDoorDRefA
import Derived.Deep.RegionHeld3
namespace Go.Proofs.YtlbaggljmbkfdaaDoor
open Go.RowKit Dg

set_option maxRecDepth 100000 in
set_option maxHeartbeats 400000 in
theorem rtree_any (n : Int) (w : World) (hn : 0 ≤ n) : Calls Tryd.prog 30 #[.int .i64 n] w fun e w' => e = .returned (.int .i64 (cE n)) ∧ w' = w := by
  by_cases h : n = 0
  · subst h
    have E : cE 0 = 1 := rfl
    rw [E]; clear E
    go_enter Tryd.func30, Tryd.ntmps30
    go_wp2
    go_ret
    exact ⟨rfl, rfl⟩
  · have hb : (n == 0) = false := by rw [beq_eq_false_iff_ne]; exact h
    by_cases h2 : 1024 < n
    · have E : cE n = 2 := by unfold cE; rw [if_neg (by omega), if_pos h2]
      rw [E]; clear E
      go_enter Tryd.func30, Tryd.ntmps30
      go_wp2
      go_ret
      exact ⟨rfl, rfl⟩
    · have E : cE n = 0 := by unfold cE; rw [if_neg (by omega), if_neg h2]
      rw [E]; clear E
      go_enter Tryd.func30, Tryd.ntmps30
      go_wp2
      go_ret
      exact ⟨rfl, rfl⟩
/-- A level that came out: new memory. -/
def OutO (L : List Nat) (w : World) (e : Ending) (w' : World) : Prop := ∃ q b cap, e = .returned (.slice q L.length cap) ∧ SlF u64v w' q b 0 L.length L ∧ (0 < L.length → w.heap.size ≤ b) ∧ RowKit.Below w.heap.size w w'
theorem OutO.of {L : List Nat} {w w' : World} {v : Value} (h : Own 25 u64v w' w.heap.size v L) (hm : L.length ≤ 1000000) (hB : RowKit.Below w.heap.size w w') : OutO L w (.returned v) w' := by
  have hb := h.block
  obtain ⟨q, b, cap, rfl, hs, hc⟩ := h.reads hm
  refine ⟨q, b, cap, rfl, hs, fun h0 => ?_, hB⟩
  have hp := hs.ptr h0
  subst hp
  exact hb b (by simp [Value.ownBlock])

set_option maxRecDepth 100000 in
set_option maxHeartbeats 1000000 in
theorem rfirst_any (l : List Nat) (p : Option Addr) (b off cap len : Nat) (w : World) (hS : SlF u64v w p b off len l) (hn : len ≤ 10000) :
    Calls Tryd.prog 31 #[.slice p len cap] w fun e w' => OutO (lv l) w e w' := by
  have HS := Lib.hid hS
  have HL := Lib.hid hS.ln
  have HTK : Hid (∀ (k : Nat) (h : k < l.length), (lv l).take (k + 1) = (lv l).take k ++ [lfN l[k]]) := fun k h => by
    rw [List.take_succ_eq_append_getElem (by unfold lv; rw [List.length_map]; exact h)]
    unfold lv; rw [List.getElem_map]
  clear hS
  go_enter Tryd.func31, Tryd.ntmps31
  go_wp2_with fail
  go_loopg [3, 4] len (fun g s3 s4 wr => ∃ k : Nat, s4 = .int .i64 k ∧ k ≤ len ∧ len - k ≤ g ∧ Hid (Own 25 u64v wr w.heap.size s3 ((lv l).take k)) ∧ Hid (RowKit.Below w.heap.size w wr))
  case atStart => exact ⟨0, rfl, by omega, by omega, Own.empty, Below.refl _ _⟩
  case round =>
    obtain ⟨k, rfl, hk, hkg, HO, HB⟩ := hrel
    have HLT : Hid (((lv l).take k).length = k) := by show _ = _; unfold lv; rw [List.length_take, List.length_map]; have := HL.out; omega
    by_cases hlt : k < len
    · have hltz : (k : Int) < (len : Int) := by omega
      have hp1 := HS.out.ptr (by omega)
      have hkl : k < l.length := by rw [HL.out]; exact hlt
      have c1 := (HS.out.bel HB.out).cells k hkl
      have HT := Lib.hid (HTK.out k hkl)
      obtain ⟨x, hx⟩ : ∃ x, x = l[k] := ⟨_, rfl⟩
      rw [← hx] at c1 HT
      unfold u64v at c1
      have K := Lib.hid (fun w => rleaf_any x w)
      generalize lfN x = z at *
      have HPL : Hid (((lv l).take k).length + 1 ≤ 1000000) := by show _ ≤ _; rw [HLT.out]; omega
      clear hx HLT
      generalize (lv l).take k = Pk at *
      subst hp1
      go_wp2_with fail
      refine (K.out _).mono ?_
      rintro _ w3 ⟨rfl, hb⟩
      have HB3 := Lib.hid (HB.out.trans (hb.mono HB.out.size))
      have HO3 := Lib.hid (HO.out.below hb)
      clear hb
      go_wp2_with (first | (at_builtin; refine list_app (f := u64v) el64 u64_one rfl _ _ rfl w.heap.size u3 Pk rfl (HO3.out.alloc _) ⟨_, 0, none⟩ 1 1 [z] rfl rfl (news1 (f := u64v) w3 z _) HPL.out (by have := HB3.out.size; rw [World.size_alloc]; omega) ?_; intro v5 W5 own5 grow5 _) | fail)
      have HB5 := Lib.hid ((HB3.out.alloc HB3.out.size (.cells #[.int .u64 z] 25)).grown grow5 (by have := HB3.out.size; rw [World.size_alloc]; omega) HO3.out.block)
      rw [← HT.out] at own5
      have HO5 := Lib.hid own5
      clear own5 grow5
      go_wp2
      go_roundg (len - (k + 1))
      case measure => omega
      case rel => exact ⟨k + 1, by go_num, by omega, by omega, HO5.out, HB5.out⟩
    · have hltz : ¬ (k : Int) < (len : Int) := by omega
      have E : (lv l).take k = lv l := List.take_of_length_le (by unfold lv; rw [List.length_map]; have := HL.out; omega)
      have h := HO.out
      rw [E] at h
      have HF := Lib.hid (OutO.of h (by unfold lv; rw [List.length_map, HL.out]; omega) HB.out)
      clear E h
      go_wp2
      go_ret
      exact HF.out

set_option maxRecDepth 100000 in
set_option maxHeartbeats 1000000 in
theorem rup_any (l : List Nat) (p : Option Addr) (b off cap len : Nat) (w : World) (hS : SlF u64v w p b off len l) (hn : len ≤ 10000) :
    Calls Tryd.prog 32 #[.slice p len cap] w fun e w' => OutO (upL l) w e w' := by
  have HS := Lib.hid hS
  have HL := Lib.hid hS.ln
  obtain ⟨N, hN⟩ : ∃ N, N = (len + 1) / 2 := ⟨_, rfl⟩
  have HUL : Hid ((upL l).length = N) := by show _ = _; rw [upL_len, hS.ln, hN]
  have HTK : Hid (∀ (k : Nat), k < N → (upL l).take (k + 1) = (upL l).take k ++ [upAt l k]) := fun k h => by
    have hk : k < (upL l).length := by rw [HUL.out]; exact h
    have := upL_at l k (by rw [hS.ln]; omega)
    rw [List.getElem?_eq_getElem hk] at this
    rw [List.take_succ_eq_append_getElem hk, Option.some.inj this]
  have hN1 : 2 * N ≤ len + 1 := by omega
  have hN2 : len ≤ 2 * N := by omega
  clear hS hN
  go_enter Tryd.func32, Tryd.ntmps32
  go_wp2_with fail
  go_loopg [3, 4] N (fun g s3 s4 wr => ∃ k : Nat, s4 = .int .i64 (2 * k : Nat) ∧ k ≤ N ∧ N - k ≤ g ∧ Hid (Own 25 u64v wr w.heap.size s3 ((upL l).take k)) ∧ Hid (RowKit.Below w.heap.size w wr))
  case atStart => exact ⟨0, rfl, by omega, by omega, Own.empty, Below.refl _ _⟩
  case round =>
    obtain ⟨k, rfl, hk, hkg, HO, HB⟩ := hrel
    have HLT : Hid (((upL l).take k).length = k) := by show _ = _; rw [List.length_take, HUL.out]; omega
    by_cases hlt : k < N
    · have HT := Lib.hid (HTK.out k hlt)
      have HPL : Hid (((upL l).take k).length + 1 ≤ 1000000) := by show _ ≤ _; rw [HLT.out]; omega
      have hp1 := HS.out.ptr (by omega)
      have hk0 : 2 * k < l.length := by rw [HL.out]; omega
      have hnx : Hid (((2 * k : Nat) : Int) + 2 = ((2 * (k + 1) : Nat) : Int)) := by show _ = _; omega
      have HBS : Hid (b < w.heap.size) := HS.out.lt (by omega)
      obtain ⟨x, hx⟩ : ∃ x, x = l[2 * k] := ⟨_, rfl⟩
      have D1 : Hid (w.cell? ⟨b, off + 2 * k, none⟩ = some (.int .u64 x)) := by show _ = _; rw [hx]; exact HS.out.cells (2 * k) hk0
      have d1 := (HB.out.cell (p := ⟨b, off + 2 * k, none⟩) HBS.out).trans D1.out
      clear HLT
      by_cases hlt2 : 2 * k + 1 < len
      · have hk1 : 2 * k + 1 < l.length := by rw [HL.out]; exact hlt2
        obtain ⟨y, hy⟩ : ∃ x, x = l[2 * k + 1] := ⟨_, rfl⟩
        have D2 : Hid (w.cell? ⟨b, off + (2 * k + 1), none⟩ = some (.int .u64 y)) := by show _ = _; rw [hy]; exact HS.out.cells (2 * k + 1) hk1
        have d2 := (HB.out.cell (p := ⟨b, off + (2 * k + 1), none⟩) HBS.out).trans D2.out
        have hU : upAt l k = prN x y := by
          unfold upAt
          rw [if_pos (by rw [HL.out]; exact hlt2), List.getElem?_eq_getElem hk0, List.getElem?_eq_getElem hk1, hx, hy]; rfl
        rw [hU] at HT
        have K := Lib.hid (fun w => rpair_any x y w)
        clear hx hy hU
        generalize prN x y = z at *
        generalize hQ : (upL l).take k = Pk at *
        clear hQ
        have hl1 : ((2 * k : Nat) : Int) < (len : Int) := by rw [HL.out] at hk0; omega
        have hl2 : ((2 * k + 1 : Nat) : Int) < (len : Int) := by omega
        have hw2 : IntKind.i64.wrap (((2 * k : Nat) : Int) + 1) = ((2 * k + 1 : Nat) : Int) := by rw [IntKind.wrap_i64]; omega
        have hw3 : ((2 * k : Nat) : Int) + 1 = ((2 * k + 1 : Nat) : Int) := by omega
        have hw4 : IntKind.i64.wrap ((2 * k + 1 : Nat) : Int) = ((2 * k + 1 : Nat) : Int) := by rw [IntKind.wrap_i64]; omega
        have hk2b : 2 * k ≤ 100000 := by omega
        have hmeas : Hid (N - (k + 1) < N - k) := by show _ < _; omega
        generalize h2 : 2 * k = k2 at *
        have H2 := Lib.hid h2
        generalize h3 : k2 + 1 = k3 at *
        clear h2 h3
        subst hp1
        go_wp2_with fail
        go_region_held3 (fun w' => w'.cell? ⟨b, off + k2, none⟩ = some (.int .u64 x) ∧ w'.cell? ⟨b, off + k3, none⟩ = some (.int .u64 y))
          (first | exact ⟨d1, d2⟩ | exact ⟨t1, t2⟩ | exact ⟨u1, u2⟩ | (go_keep; done))
          (first | (go_at_call 40; refine (K.out _).mono ?_; rintro _ v1 ⟨rfl, hb⟩; have hB1 := HB.out.drew.trans (hb.mono HB.out.drew.size); have HO1 := Lib.hid (HO.out.drew.below hb); have HNW := Lib.hid (news1 (f := u64v) v1 z 25); have HB1 := Lib.hid hB1; have t1 := (hB1.cell (p := ⟨b, off + k2, none⟩) HBS.out).trans D1.out; have t2 := (hB1.cell (p := ⟨b, off + k3, none⟩) HBS.out).trans D2.out; clear hB1 hb) | (refine step_app (f := u64v) el64 u64_one (by rfl) _ _ (by rfl) w.heap.size u3 Pk (by rfl) (HO1.out.alloc _) ⟨v1.heap.size, 0, none⟩ 1 1 [z] (by rfl) rfl HNW.out HPL.out (by have := HB1.out.size; rw [World.size_alloc]; omega) ?_; intro v5 W5 own5 grow5 _; have hB5 := (HB1.out.alloc HB1.out.size (.cells #[.int .u64 z] 25)).grown grow5 (by have := HB1.out.size; rw [World.size_alloc]; omega) HO1.out.block; have u1 := (hB5.cell (p := ⟨b, off + k2, none⟩) HBS.out).trans D1.out; have u2 := (hB5.cell (p := ⟨b, off + k3, none⟩) HBS.out).trans D2.out))
        rw [← HT.out] at own5
        have HO5 := Lib.hid own5
        have HB5 := Lib.hid hB5
        clear own5 grow5 hB5 u1 u2 t1 t2
        go_wp2
        go_roundg (N - (k + 1))
        case measure => omega
        case rel => exact ⟨k + 1, by rw [hnx.out], by omega, by omega, HO5.out, HB5.out⟩
      · have hU : upAt l k = x := by
          unfold upAt
          rw [if_neg (by rw [HL.out]; exact hlt2), List.getElem?_eq_getElem hk0, hx]; rfl
        rw [hU] at HT
        clear hx hU
        generalize hQ : (upL l).take k = Pk at *
        clear hQ
        have hl1 : ((2 * k : Nat) : Int) < (len : Int) := by rw [HL.out] at hk0; omega
        have hl2 : ¬ ((2 * k : Nat) : Int) + 1 < (len : Int) := by omega
        have hk2b : 2 * k ≤ 100000 := by omega
        generalize h2 : 2 * k = k2 at *
        have H2 := Lib.hid h2
        clear h2
        subst hp1
        go_wp2_with (first | (at_builtin; refine list_app (f := u64v) el64 u64_one rfl _ _ rfl w.heap.size u3 Pk rfl (HO.out.alloc _) ⟨_, 0, none⟩ 1 1 [x] rfl rfl (news1 (f := u64v) wr x _) HPL.out (by have := HB.out.size; rw [World.size_alloc]; omega) ?_; intro v5 W5 own5 grow5 _) | fail)
        have HB5 := Lib.hid ((HB.out.alloc HB.out.size (.cells #[.int .u64 x] 25)).grown grow5 (by have := HB.out.size; rw [World.size_alloc]; omega) HO.out.block)
        rw [← HT.out] at own5
        have HO5 := Lib.hid own5
        clear own5 grow5
        go_wp2
        go_roundg (N - (k + 1))
        case measure => omega
        case rel => exact ⟨k + 1, by rw [hnx.out], by omega, by omega, HO5.out, HB5.out⟩
    · have hltz : ¬ ((2 * k : Nat) : Int) < (len : Int) := by omega
      have E : (upL l).take k = upL l := List.take_of_length_le (by rw [HUL.out]; omega)
      have h := HO.out
      rw [E] at h
      have HF := Lib.hid (OutO.of h (by rw [HUL.out]; omega) HB.out)
      have hk2b : 2 * k ≤ 100000 := by omega
      clear E h
      generalize 2 * k = k2 at *
      go_wp2
      go_ret
      exact HF.out
end Go.Proofs.YtlbaggljmbkfdaaDoor
