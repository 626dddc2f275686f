/- Texts on units: UCl2 -/
import Derived.Test.YtoaonficdkgfiaaY07
namespace Go.Proofs.Ytoaonficdkgfiaa
open Go.RowKit Un

set_option maxRecDepth 100000 in
set_option maxHeartbeats 4000000 in
theorem uareFlags_any (us : List U) (p : Option Addr) (b off c : Nat) (w : World) (hS : SlR w p b off us.length 4 (us.map uC)) :
  Calls Try.prog 76 #[.slice p us.length c] w fun e w' => e = .returned (.bool (us.all U.f)) ∧ RowKit.Below w.heap.size w w' := by
 have HB := Lib.hid (Below.refl w.heap.size w)
 have HS := Lib.hid hS
 have hmax := hS.max
 obtain ⟨R, hR⟩ : ∃ R, R = us.all U.f := ⟨_, rfl⟩
 rw [← hR]
 have HR := Lib.hid hR
 clear hR hS
 go_enter Try.func76, Try.ntmps76
 go_wp2_with fail
 go_loopg [7] us.length (fun g v7 wr => ∃ i : Nat, i ≤ us.length ∧ us.length - i ≤ g ∧ v7 = .int .i64 i ∧ Hid (R = (us.drop i).all U.f) ∧ Hid (RowKit.Below w.heap.size w wr))
 case atStart => exact ⟨0, Nat.zero_le _, by omega, by simp, HR, HB⟩
 case round =>
  obtain ⟨i, hi, hg, rfl, HM, HW⟩ := hrel
  have hws := HW.out.size
  by_cases hlt : i < us.length
  ·have hz : (i : Int) < (us.length : Int) := by omega
   have hq := HS.out.ptr (by omega)
   subst hq
   have hr := (HS.out.bel HW.out).at_ i (uC us[i]) (by rw [List.getElem?_map, List.getElem?_eq_getElem hlt]; rfl)
   have E3 : Hid (R = (us[i].f && (us.drop (i + 1)).all U.f)) := by
    show _ = _
    rw [HM.out, List.drop_eq_getElem_cons hlt]
    rfl
   clear HM
   generalize us[i] = d at *
   obtain ⟨uf, um, ua, ud⟩ := d
   simp only [uC] at hr
   have hc := hr.2
   have z0 := hc 0 _ rfl
   have z1 := hc 1 _ rfl
   have z2 := hc 2 _ rfl
   have z3 := hc 3 _ rfl
   rw [Nat.add_zero] at z0
   have e2 : IntKind.i64.wrap ((i : Int) + 1) = ((i + 1 : Nat) : Int) := by rw [IntWalk.i64_in _ (by omega)]; rfl
   clear hc hr
   cases uf with
   | false =>
    go_wp2_with fail
    go_ret
    exact ⟨ret_bool (by rw [E3.out]; rfl), (by repeat' (first | (with_reducible exact HW.out) | (with_reducible refine Below.setCell ?_ ?_ _) | (with_reducible refine Below.alloc ?_ ?_ _) | (with_reducible refine Below.drew ?_) | (with_reducible refine below_drewN ?_ _) | (with_reducible exact Below.refl _ _) | omega | (simp; done) | (simp; omega)))⟩
   | true =>
    go_wp2_with fail
    go_roundg (us.length - (i + 1))
    case measure => omega
    case rel => exact ⟨i + 1, by omega, Nat.le_refl _, by simp, by show _ = _; rw [E3.out]; rfl, by show RowKit.Below _ _ _; exact (by repeat' (first | (with_reducible exact HW.out) | (with_reducible refine Below.setCell ?_ ?_ _) | (with_reducible refine Below.alloc ?_ ?_ _) | (with_reducible refine Below.drew ?_) | (with_reducible refine below_drewN ?_ _) | (with_reducible exact Below.refl _ _) | omega | (simp; done) | (simp; omega)))⟩
  ·have hz : ¬ (i : Int) < (us.length : Int) := by omega
   have hie : i = us.length := by omega
   subst hie
   go_wp2_with fail
   go_ret
   exact ⟨ret_bool (by rw [HM.out, List.drop_length]; rfl), HW.out⟩
set_option maxRecDepth 100000 in
set_option maxHeartbeats 4000000 in
theorem uareExps_any (xs : List Int) (p : Option Addr) (b off c : Nat) (w : World) (hS : SlR w p b off xs.length 1 (xs.map fun x => [.int .i64 x])) :
  Calls Try.prog 91 #[.slice p xs.length c] w fun e w' => e = .returned (.bool (xs.all expo)) ∧ w' = w := by
 have HS := Lib.hid hS
 have hmax := hS.max
 obtain ⟨R, hR⟩ : ∃ R, R = xs.all expo := ⟨_, rfl⟩
 rw [← hR]
 have HR := Lib.hid hR
 clear hR hS
 go_enter Try.func91, Try.ntmps91
 go_wp2_with fail
 go_loopg [7] xs.length (fun g v7 wr => ∃ i : Nat, i ≤ xs.length ∧ xs.length - i ≤ g ∧ v7 = .int .i64 i ∧ Hid (R = (xs.drop i).all expo) ∧ wr = w)
 case atStart => exact ⟨0, Nat.zero_le _, by omega, by simp, HR, rfl⟩
 case round =>
  obtain ⟨i, hi, hg, rfl, HM, rfl⟩ := hrel
  by_cases hlt : i < xs.length
  ·have hz : (i : Int) < (xs.length : Int) := by omega
   have hq := HS.out.ptr (by omega)
   subst hq
   have hr := HS.out.at_ i [.int .i64 xs[i]] (by rw [List.getElem?_map, List.getElem?_eq_getElem hlt]; rfl)
   have E3 : Hid (R = (expo xs[i] && (xs.drop (i + 1)).all expo)) := by
    show _ = _
    rw [HM.out, List.drop_eq_getElem_cons hlt]
    rfl
   clear HM
   generalize xs[i] = d at *
   have z0 := hr.2 0 _ rfl
   rw [Nat.add_zero, Nat.mul_one] at z0
   have e2 : IntKind.i64.wrap ((i : Int) + 1) = ((i + 1 : Nat) : Int) := by rw [IntWalk.i64_in _ (by omega)]; rfl
   clear hr
   by_cases h1 : d < -3
   ·go_wp2_with fail
    go_ret
    exact ⟨ret_bool (by rw [E3.out]; unfold expo; rw [decide_eq_false (by omega)]; rfl), rfl⟩
   ·by_cases h2 : 3 < d
    ·go_wp2_with fail
     go_ret
     exact ⟨ret_bool (by rw [E3.out]; unfold expo; rw [decide_eq_false (p := d ≤ 3) (by omega), Bool.and_false]; rfl), rfl⟩
    ·go_wp2_with fail
     go_roundg (xs.length - (i + 1))
     case measure => omega
     case rel => exact ⟨i + 1, by omega, Nat.le_refl _, by simp, by show _ = _; rw [E3.out]; unfold expo; rw [decide_eq_true (p := d ≤ 3) (by omega), decide_eq_true (by omega)]; rfl, rfl⟩
  ·have hz : ¬ (i : Int) < (xs.length : Int) := by omega
   have hie : i = xs.length := by omega
   subst hie
   go_wp2_with fail
   go_ret
   exact ⟨ret_bool (by rw [HM.out, List.drop_length]; rfl), rfl⟩
theorem uproduct_any (s : Int) (w : World) : Calls Try.prog 78 #[.int .i64 s] w fun e w' => e = .returned (.func (.func 90) #[] #[.pointer (some ⟨w.heap.size, 0, none⟩)]) ∧ w'.cell? ⟨w.heap.size, 0, none⟩ = some (.int .i64 s) ∧ RowKit.Below w.heap.size w w' := by
 have hmf : ∀ (fn : Fn) (first cap : Array Value) (w : World), (Instr.makeFunc fn first cap).run Try.prog w = .ok (.func fn first cap) w := fun _ _ _ _ => rfl
 have HB := Lib.hid (Below.refl w.heap.size w)
 go_enter Try.func78, Try.ntmps78
 go_wp2_with fail
 go_ret
 exact ⟨rfl, by simp, (by repeat' (first | (with_reducible exact HB.out) | (with_reducible refine Below.setCell ?_ ?_ _) | (with_reducible refine Below.alloc ?_ ?_ _) | (with_reducible refine Below.drew ?_) | (with_reducible refine below_drewN ?_ _) | (with_reducible exact Below.refl _ _) | omega | (simp; done) | (simp; omega)))⟩
set_option maxRecDepth 100000 in
set_option maxHeartbeats 6000000 in
theorem opLogic (us : List U) (p : Option Addr) (b off c fb : Nat) (w : World) (hS : SlR w p b off us.length 4 (us.map uC)) (hf : FlagM w fb) :
  Calls Try.prog 75 #[.slice p us.length c, .pointer (some ⟨fb, 0, none⟩)] w fun e w' => e = .returned (.tuple #[uV uFlag, .bool (us.all U.f)]) ∧ RowKit.Below w.heap.size w w' := by
 have KF := Lib.hid (fun w hS => uareFlags_any us p b off c w hS)
 have NF : fb ≠ w.heap.size := by have := hf.lt; omega
 have NB : 0 < us.length → b ≠ w.heap.size := fun h => by have := hS.lt h; omega
 obtain ⟨W1, hW1⟩ : ∃ W1, W1 = w.alloc (.cells #[.bool false, .int .i64 0, .int .i64 0, .int .i64 0] 29) := ⟨_, rfl⟩
 have B1 := Lib.hid ((Below.refl w.heap.size w).alloc (Nat.le_refl _) (.cells #[.bool false, .int .i64 0, .int .i64 0, .int .i64 0] 29))
 have X1 := Lib.hid (BoxL.new w [.bool false, .int .i64 0, .int .i64 0, .int .i64 0] 29)
 rw [← hW1] at B1
 have X1' : Hid (BoxL W1 w.heap.size [.bool false, .int .i64 0, .int .i64 0, .int .i64 0]) := by rw [hW1]; exact X1.out
 have hs1 : W1.heap.size = w.heap.size + 1 := by rw [hW1]; simp
 clear X1
 have S1 := Lib.hid (hS.bel B1.out)
 have F1 := Lib.hid (hf.bel B1.out)
 clear hS hf
 generalize us.all U.f = R at *
 obtain ⟨f0, f1, f2, f3⟩ := F1.out
 go_enter Try.func75, Try.ntmps75
 go_wp2_with fail
 rw [← hW1]
 clear hW1
 have hS : W1.drew.cell? ⟨fb, 0, none⟩ = some (.bool true) ∧ W1.drew.cell? ⟨fb, 1, none⟩ = some (.int .i64 0) ∧ W1.drew.cell? ⟨fb, 2, none⟩ = some (.int .i64 0) ∧ W1.drew.cell? ⟨fb, 3, none⟩ = some (.int .i64 0) := ⟨f0, f1, f2, f3⟩
 refine wp_region_held (S := fun w' : World => w'.cell? ⟨fb, 0, none⟩ = some (.bool true) ∧ w'.cell? ⟨fb, 1, none⟩ = some (.int .i64 0) ∧ w'.cell? ⟨fb, 2, none⟩ = some (.int .i64 0) ∧ w'.cell? ⟨fb, 3, none⟩ = some (.int .i64 0)) mixed ?_
 change wpAnyH _ _ _ _ _ _ _ _ W1.drew
 refine tk0 (v := ?_) (by kernel_rfl) (by kernel_rfl) (by kernel_rfl) (fun _ _ _ h => h) (Or.inl ⟨by rfl, ?_⟩) hS ?_
 rotate_left
 ·(intro w hSw; (try dsimp only at hSw); go_simp; try with_reducible rfl)
 simp only [Act.put, zA, zB, zC]
 refine tk1 (v := ?_) (by kernel_rfl) (by kernel_rfl) (by kernel_rfl) (fun _ _ _ h => h) (Or.inl ⟨by rfl, ?_⟩) hS ?_
 rotate_left
 ·(intro w hSw; (try dsimp only at hSw); go_simp; try with_reducible rfl)
 simp only [Act.put, zA, zB, zC]
 refine wpAnyH_ready (rs := [2]) (by kernel_rfl) (by simp) (st2 (fun K hK => ?_) AllReadyH.nil)
 go_simp
 refine (KF.out _ (S1.out.bel (Below.refl _ _).drew)).mono ?_
 rintro _ v ⟨rfl, hb⟩
 have hdr := (Below.refl W1.heap.size W1).drew.trans hb
 have F2 := Lib.hid (F1.out.bel hdr)
 have X2 := Lib.hid (X1'.out.bel (by simp) hdr)
 have B2 : Hid (RowKit.Below w.heap.size w v) := B1.out.trans (hdr.mono (by omega))
 clear hb hdr X1' F1 S1 KF
 go_wp2_with fail
 refine hK.out _ _ ?_ (fun hHeld => ?_)
 ·exact ⟨F2.out.f0, F2.out.f1, F2.out.f2, F2.out.f3⟩
 clear hK K
 try simp only [Act.put, zA, zB, zC]
 refine wpAnyH_ready (rs := [3]) (by kernel_rfl) (by simp) (st3 (fun K hK => ?_) AllReadyH.nil)
 obtain ⟨x0, x1, x2, x3, g0, g1, g2, g3⟩ := box4 X2.out
 go_simp
 have F3 := Lib.hid ((((F2.out.other NF 0 (.bool true)).other NF 1 (.int .i64 0)).other NF 2 (.int .i64 0)).other NF 3 (.int .i64 0))
 refine hK.out _ _ ?_ (fun hHeld => ?_)
 ·exact ⟨F3.out.f0, F3.out.f1, F3.out.f2, F3.out.f3⟩
 clear hK K
 try simp only [Act.put, zA, zB, zC]
 refine tk4 (v := ?_) (by kernel_rfl) (by kernel_rfl) (by kernel_rfl) (fun _ _ _ h => h) (Or.inl ⟨by rfl, ?_⟩) hHeld ?_
 rotate_left
 ·(intro w hSw; (try dsimp only at hSw); go_simp; try with_reducible rfl)
 simp only [Act.put, zA, zB, zC]
 refine wpAnyH_done (by kernel_rfl) ?_ _
 go_wp2_with fail
 exact bodyPost_ret (v := .tuple #[.agg #[.bool true, .int .i64 0, .int .i64 0, .int .i64 0], .bool R]) (by simp [results, Try.results75, go_sem, x0, x1, x2, x3]) rfl ⟨by simp [uV, uC, uFlag], (by repeat' (first | (with_reducible exact B2.out) | (with_reducible refine Below.setCell ?_ ?_ _) | (with_reducible refine Below.alloc ?_ ?_ _) | (with_reducible refine Below.drew ?_) | (with_reducible refine below_drewN ?_ _) | (with_reducible exact Below.refl _ _) | omega | (simp; done) | (simp; omega)))⟩
end Go.Proofs.Ytoaonficdkgfiaa
