/-
  Contract of the reference implementation's Parse: the walk.
-/
import Derived.Test.YtohnmffokichkaaDoorRef5
namespace Go.Proofs.YtohnmffokichkaaDoor
open Go.RowKit

/-- Number gives this for a string. -/
def NumIs (x : ByteArray) (n : Int) (o : Bool) : Prop := ∀ w : World, Calls Tryd.prog 49 #[.string x] w fun e w' => e = .returned (.tuple #[.int .i64 n, .bool o]) ∧ Below w.heap.size w w'

/-- What is given for a number that may be right. -/
def refP (n d : Int) (o : Bool) : Int × Int × Int := if o = true then (n, d, 0) else (0, 0, 8)

theorem At2.set0 {w : World} {b : Nat} {x y : Value} (h : At2 w b x y) (u : Value) : At2 (w.setCell ⟨b, 0, none⟩ u) b u y := by
  obtain ⟨c0, c1, f0, f1⟩ := h
  exact ⟨by simp [go_sem, c0], by simp [go_sem, c1], by simp [go_sem, f0], by simp [go_sem, f1]⟩
theorem At2.set1 {w : World} {b : Nat} {x y : Value} (h : At2 w b x y) (u : Value) : At2 (w.setCell ⟨b, 1, none⟩ u) b x u := by
  obtain ⟨c0, c1, f0, f1⟩ := h
  exact ⟨by simp [go_sem, c0], by simp [go_sem, c1], by simp [go_sem, f0], by simp [go_sem, f1]⟩
theorem At2.oth {w : World} {b b' : Nat} {x y : Value} (h : At2 w b x y) (hb : ¬ b = b') (o : Nat) (u : Value) : At2 (w.setCell ⟨b', o, none⟩ u) b x y := by
  have e : (w.setCell ⟨b', o, none⟩ u).heap[b]? = w.heap[b]? := Below.heap_setCell _ _ _ _ hb
  exact ⟨(World.cell?_of_block (w := w) (a := ⟨b, 0, none⟩) e).trans h.c0, (World.cell?_of_block (w := w) (a := ⟨b, 1, none⟩) e).trans h.c1,
    (World.frozen?_of_block (w := w) (a := ⟨b, 0, none⟩) e).trans h.f0, (World.frozen?_of_block (w := w) (a := ⟨b, 1, none⟩) e).trans h.f1⟩

set_option maxRecDepth 100000 in
set_option maxHeartbeats 400000 in
theorem rp_e (w : World) (hN : NumIs ⟨#[]⟩ 0 false) :
    Calls Tryd.prog 29 #[.string ⟨#[]⟩] w fun e w' => e = .returned (.tuple #[.agg #[.int .i64 0, .int .i64 0], .int .i64 8]) ∧ Below w.heap.size w w' := by
  have HN := Lib.hid hN
  clear hN
  go_enter Tryd.func29, Tryd.ntmps29
  go_wp2
  go_loopg [5] 0 (fun k x wr => k = 0 ∧ x = .int .i64 0 ∧ wr = w.alloc (.cells #[.int .i64 0, .int .i64 0] 23))
  case atStart => exact ⟨rfl, rfl, rfl⟩
  case round =>
    obtain ⟨rfl, rfl, rfl⟩ := hrel
    have A0 := At2.new w (.int .i64 0) (.int .i64 0) 23
    have Z0 : (w.alloc (.cells #[.int .i64 0, .int .i64 0] 23)).heap.size = w.heap.size + 1 := by simp
    have HB0 : Below w.heap.size w (w.alloc (.cells #[.int .i64 0, .int .i64 0] 23)) := (Below.refl _ _).alloc (Nat.le_refl _) _
    generalize w.alloc (.cells #[.int .i64 0, .int .i64 0] 23) = w0 at A0 Z0 HB0 ⊢
    go_wp2_with fail
    refine (HN.out _).mono ?_
    rintro e w1 ⟨rfl, hb1⟩
    have hz1 := hb1.size
    simp only [World.size_alloc] at hz1
    have A1 := (A0.alloc (by omega) _).below hb1 (by simp; omega)
    have R1 := (At2.new w0 (.int .i64 0) (.int .i64 1) 23).below hb1 (by simp)
    have HBX : Below w.heap.size w w1 := (HB0.alloc (by omega) _).trans (hb1.mono (by simp; omega))
    clear hb1 A0 HB0
    rw [Z0] at R1 hz1
    clear Z0
    obtain ⟨p0, p1, p2, p3⟩ := A1
    obtain ⟨q0, q1, q2, q3⟩ := R1
    go_wp2_with fail
    exact bodyPost_ret (v := .tuple #[.agg #[.int .i64 0, .int .i64 0], .int .i64 8]) (by simp [results, Tryd.results29, go_sem, p0, p1]) rfl ⟨rfl, (by repeat' (first | exact HBX | refine Below.setCell ?_ (by first | omega | (simp; done) | (simp; omega)) _ | refine below_drewN ?_ _ | refine Below.alloc ?_ (by first | omega | (simp; done) | (simp; omega)) _))⟩

set_option maxRecDepth 100000 in
set_option maxHeartbeats 400000 in
theorem rp_00 (s : ByteArray) (w : World) (n1 : Int) (o1 : Bool) (r : Int × Int × Int) (hs : s.size ≤ 281474976710656) (h0 : 0 < s.size) (hm : ((s[0].toNat : Int) == 45) = false) (hno : ∀ (k : Nat) (h : k < s.size), k < s.size → ((s[k].toNat : Int) != 47) = true) (hN : NumIs s n1 o1) (b0 : 0 ≤ n1) (b1 : n1 ≤ 10000000000) (hr : r = refP n1 1 (o1 && vld n1 1)) :
    Calls Tryd.prog 29 #[.string s] w fun e w' => e = .returned (.tuple #[.agg #[.int .i64 r.1, .int .i64 r.2.1], .int .i64 r.2.2]) ∧ Below w.heap.size w w' := by
  have HN := Lib.hid hN
  have HO := Lib.hid hno
  have HR := Lib.hid hr
  clear hN hno hr
  have f0 : decide ((0 : Int) < (s.size : Int)) = true := by simp; omega
  go_enter Tryd.func29, Tryd.ntmps29
  go_wp2
  go_loopg [5] s.size (fun k x wr => ∃ j : Nat, j ≤ s.size ∧ k = s.size - j ∧ x = .int .i64 j ∧ wr = w.alloc (.cells #[.int .i64 0, .int .i64 0] 23))
  case atStart => exact ⟨0, Nat.zero_le _, by omega, rfl, rfl⟩
  case round =>
    obtain ⟨j, hj, hk, rfl, rfl⟩ := hrel
    have HK := Lib.hid hk
    clear hk
    by_cases hlt : j < s.size
    · have hsz : j < s.size := by omega
      have hc := HO.out j hsz hlt
      go_wp2
      go_roundg (s.size - (j + 1))
      case measure => have := HK.out; omega
      case rel => exact ⟨j + 1, by omega, rfl, by go_num, rfl⟩
    · have e : j = s.size := by omega
      subst e
      have hd : decide ((s.size : Int) < (s.size : Int)) = false := by simp
      have A0 := At2.new w (.int .i64 0) (.int .i64 0) 23
      have Z0 : (w.alloc (.cells #[.int .i64 0, .int .i64 0] 23)).heap.size = w.heap.size + 1 := by simp
      have HB0 : Below w.heap.size w (w.alloc (.cells #[.int .i64 0, .int .i64 0] 23)) := (Below.refl _ _).alloc (Nat.le_refl _) _
      generalize w.alloc (.cells #[.int .i64 0, .int .i64 0] 23) = w0 at A0 Z0 HB0 ⊢
      go_wp2_with fail
      refine (HN.out _).mono ?_
      rintro e w1 ⟨rfl, hb1⟩
      have hz1 := hb1.size
      simp only [World.size_alloc] at hz1
      have A1 := (A0.alloc (by omega) _).below hb1 (by simp; omega)
      have R1 := (At2.new w0 (.int .i64 0) (.int .i64 1) 23).below hb1 (by simp)
      have HB1 : Below w.heap.size w w1 := (HB0.alloc (by omega) _).trans (hb1.mono (by simp; omega))
      clear hb1 A0 HB0
      rw [Z0] at R1 hz1
      clear Z0
      obtain ⟨p0, p1, p2, p3⟩ := A1
      obtain ⟨q0, q1, q2, q3⟩ := R1
      cases ho1 : o1
      all_goals try subst ho1
      · have HRR := Lib.hid (show r = (0, 0, 8) by rw [HR.out]; rfl)
        have HBX := HB1
        go_wp2_with fail
        exact bodyPost_ret (v := .tuple #[.agg #[.int .i64 0, .int .i64 0], .int .i64 8]) (by simp [results, Tryd.results29, go_sem, p0, p1]) rfl ⟨(by rw [HRR.out]), (by repeat' (first | exact HBX | refine Below.setCell ?_ (by first | omega | (simp; done) | (simp; omega)) _ | refine below_drewN ?_ _ | refine Below.alloc ?_ (by first | omega | (simp; done) | (simp; omega)) _))⟩
      go_wp2_with fail
      refine (rvalid_any n1 1 _ (by omega) (by omega) (by omega) (by omega)).mono ?_
      rintro e w4 ⟨rfl, hb4⟩
      have hz4 := hb4.size
      simp only [World.size_setCell] at hz4
      have A4 := ((At2.mk p0 p1 p2 p3).oth (b' := w.heap.size + 1) (by omega) 0 (.int .i64 n1)).below hb4 (by simp; omega)
      have R4 := ((At2.mk q0 q1 q2 q3).set0 (.int .i64 n1)).below hb4 (by simp; omega)
      have HBX : Below w.heap.size w w4 := (HB1.setCell (by simp) _).trans (hb4.mono (by simp; omega))
      clear hb4 HB1 p0 p1 p2 p3 q0 q1 q2 q3
      obtain ⟨p0, p1, p2, p3⟩ := A4
      obtain ⟨q0, q1, q2, q3⟩ := R4
      cases hv : vld n1 1
      · have HRR := Lib.hid (show r = (0, 0, 8) by rw [HR.out, hv]; rfl)
        go_wp2_with fail
        exact bodyPost_ret (v := .tuple #[.agg #[.int .i64 0, .int .i64 0], .int .i64 8]) (by simp [results, Tryd.results29, go_sem, p0, p1]) rfl ⟨(by rw [HRR.out]), (by repeat' (first | exact HBX | refine Below.setCell ?_ (by first | omega | (simp; done) | (simp; omega)) _ | refine below_drewN ?_ _ | refine Below.alloc ?_ (by first | omega | (simp; done) | (simp; omega)) _))⟩
      · have HRR := Lib.hid (show r = (n1, 1, 0) by rw [HR.out, hv]; rfl)
        go_wp2_with fail
        exact bodyPost_ret (v := .tuple #[.agg #[.int .i64 n1, .int .i64 1], .int .i64 0]) (by simp [results, Tryd.results29, go_sem, p0, p1]) rfl ⟨(by rw [HRR.out]), (by repeat' (first | exact HBX | refine Below.setCell ?_ (by first | omega | (simp; done) | (simp; omega)) _ | refine below_drewN ?_ _ | refine Below.alloc ?_ (by first | omega | (simp; done) | (simp; omega)) _))⟩

set_option maxRecDepth 100000 in
set_option maxHeartbeats 400000 in
theorem rp_01 (s : ByteArray) (w : World) (n1 : Int) (o1 : Bool) (r : Int × Int × Int) (n2 : Int) (o2 : Bool) (K : Nat) (hs : s.size ≤ 281474976710656) (h0 : 0 < s.size) (hm : ((s[0].toNat : Int) == 45) = false) (hKs : K < s.size) (hKc : ((s[K].toNat : Int) != 47) = false) (hno : ∀ (k : Nat) (h : k < s.size), k < K → ((s[k].toNat : Int) != 47) = true) (hN : NumIs (s.extract 0 K) n1 o1) (b0 : 0 ≤ n1) (b1 : n1 ≤ 10000000000) (hN2 : NumIs (s.extract (K + 1) s.size) n2 o2) (b2 : 0 ≤ n2) (b3 : n2 ≤ 10000000000) (hr : r = refP n1 n2 ((o1 && o2 && (n2 != 1)) && vld n1 n2)) :
    Calls Tryd.prog 29 #[.string s] w fun e w' => e = .returned (.tuple #[.agg #[.int .i64 r.1, .int .i64 r.2.1], .int .i64 r.2.2]) ∧ Below w.heap.size w w' := by
  have HN := Lib.hid hN
  have HN2 := Lib.hid hN2
  have HO := Lib.hid hno
  have HR := Lib.hid hr
  clear hN hno hr hN2
  have f0 : decide ((0 : Int) < (s.size : Int)) = true := by simp; omega
  go_enter Tryd.func29, Tryd.ntmps29
  go_wp2
  go_loopg [5] K (fun k x wr => ∃ j : Nat, j ≤ K ∧ k = K - j ∧ x = .int .i64 j ∧ wr = w.alloc (.cells #[.int .i64 0, .int .i64 0] 23))
  case atStart => exact ⟨0, Nat.zero_le _, by omega, rfl, rfl⟩
  case round =>
    obtain ⟨j, hj, hk, rfl, rfl⟩ := hrel
    have HK := Lib.hid hk
    clear hk
    by_cases hlt : j < K
    · have hsz : j < s.size := by omega
      have hc := HO.out j hsz hlt
      go_wp2
      go_roundg (K - (j + 1))
      case measure => have := HK.out; omega
      case rel => exact ⟨j + 1, by omega, rfl, by go_num, rfl⟩
    · have e : j = K := by omega
      subst e
      have hd : decide ((j : Int) < (s.size : Int)) = true := by simp; omega
      have A0 := At2.new w (.int .i64 0) (.int .i64 0) 23
      have Z0 : (w.alloc (.cells #[.int .i64 0, .int .i64 0] 23)).heap.size = w.heap.size + 1 := by simp
      have HB0 : Below w.heap.size w (w.alloc (.cells #[.int .i64 0, .int .i64 0] 23)) := (Below.refl _ _).alloc (Nat.le_refl _) _
      generalize w.alloc (.cells #[.int .i64 0, .int .i64 0] 23) = w0 at A0 Z0 HB0 ⊢
      go_wp2_with fail
      refine (HN.out _).mono ?_
      rintro e w1 ⟨rfl, hb1⟩
      have hz1 := hb1.size
      simp only [World.size_alloc] at hz1
      have A1 := (A0.alloc (by omega) _).below hb1 (by simp; omega)
      have R1 := (At2.new w0 (.int .i64 0) (.int .i64 1) 23).below hb1 (by simp)
      have HB1 : Below w.heap.size w w1 := (HB0.alloc (by omega) _).trans (hb1.mono (by simp; omega))
      clear hb1 A0 HB0
      rw [Z0] at R1 hz1
      clear Z0
      obtain ⟨p0, p1, p2, p3⟩ := A1
      obtain ⟨q0, q1, q2, q3⟩ := R1
      go_wp2_with fail
      refine (HN2.out _).mono ?_
      rintro e w2 ⟨rfl, hb2⟩
      have hz2 := hb2.size
      simp only [World.size_setCell] at hz2
      have A2 := ((At2.mk p0 p1 p2 p3).oth (b' := w.heap.size + 1) (by omega) 0 (.int .i64 n1)).below hb2 (by simp; omega)
      have R2 := ((At2.mk q0 q1 q2 q3).set0 (.int .i64 n1)).below hb2 (by simp; omega)
      have HB2 : Below w.heap.size w w2 := (HB1.setCell (by simp) _).trans (hb2.mono (by simp; omega))
      clear hb2 HB1 p0 p1 p2 p3 q0 q1 q2 q3
      obtain ⟨p0, p1, p2, p3⟩ := A2
      obtain ⟨q0, q1, q2, q3⟩ := R2
      cases ho1 : o1
      all_goals try subst ho1
      · have HRR := Lib.hid (show r = (0, 0, 8) by rw [HR.out]; rfl)
        have HBX := HB2
        go_wp2_with fail
        exact bodyPost_ret (v := .tuple #[.agg #[.int .i64 0, .int .i64 0], .int .i64 8]) (by simp [results, Tryd.results29, go_sem, p0, p1]) rfl ⟨(by rw [HRR.out]), (by repeat' (first | exact HBX | refine Below.setCell ?_ (by first | omega | (simp; done) | (simp; omega)) _ | refine below_drewN ?_ _ | refine Below.alloc ?_ (by first | omega | (simp; done) | (simp; omega)) _))⟩
      cases ho2 : o2
      all_goals try subst ho2
      · have HRR := Lib.hid (show r = (0, 0, 8) by rw [HR.out]; rfl)
        have HBX := HB2
        go_wp2_with fail
        exact bodyPost_ret (v := .tuple #[.agg #[.int .i64 0, .int .i64 0], .int .i64 8]) (by simp [results, Tryd.results29, go_sem, p0, p1]) rfl ⟨(by rw [HRR.out]), (by repeat' (first | exact HBX | refine Below.setCell ?_ (by first | omega | (simp; done) | (simp; omega)) _ | refine below_drewN ?_ _ | refine Below.alloc ?_ (by first | omega | (simp; done) | (simp; omega)) _))⟩
      cases hn2 : (n2 != 1)
      · have HRR := Lib.hid (show r = (0, 0, 8) by rw [HR.out, hn2]; rfl)
        have HBX := HB2
        go_wp2_with fail
        exact bodyPost_ret (v := .tuple #[.agg #[.int .i64 0, .int .i64 0], .int .i64 8]) (by simp [results, Tryd.results29, go_sem, p0, p1]) rfl ⟨(by rw [HRR.out]), (by repeat' (first | exact HBX | refine Below.setCell ?_ (by first | omega | (simp; done) | (simp; omega)) _ | refine below_drewN ?_ _ | refine Below.alloc ?_ (by first | omega | (simp; done) | (simp; omega)) _))⟩
      go_wp2_with fail
      refine (rvalid_any n1 n2 _ (by omega) (by omega) (by omega) (by omega)).mono ?_
      rintro e w4 ⟨rfl, hb4⟩
      have hz4 := hb4.size
      simp only [World.size_setCell] at hz4
      have A4 := ((At2.mk p0 p1 p2 p3).oth (b' := w.heap.size + 1) (by omega) 1 (.int .i64 n2)).below hb4 (by simp; omega)
      have R4 := ((At2.mk q0 q1 q2 q3).set1 (.int .i64 n2)).below hb4 (by simp; omega)
      have HBX : Below w.heap.size w w4 := (HB2.setCell (by simp) _).trans (hb4.mono (by simp; omega))
      clear hb4 HB2 p0 p1 p2 p3 q0 q1 q2 q3
      obtain ⟨p0, p1, p2, p3⟩ := A4
      obtain ⟨q0, q1, q2, q3⟩ := R4
      cases hv : vld n1 n2
      · have HRR := Lib.hid (show r = (0, 0, 8) by rw [HR.out, hn2, hv]; rfl)
        go_wp2_with fail
        exact bodyPost_ret (v := .tuple #[.agg #[.int .i64 0, .int .i64 0], .int .i64 8]) (by simp [results, Tryd.results29, go_sem, p0, p1]) rfl ⟨(by rw [HRR.out]), (by repeat' (first | exact HBX | refine Below.setCell ?_ (by first | omega | (simp; done) | (simp; omega)) _ | refine below_drewN ?_ _ | refine Below.alloc ?_ (by first | omega | (simp; done) | (simp; omega)) _))⟩
      · have HRR := Lib.hid (show r = (n1, n2, 0) by rw [HR.out, hn2, hv]; rfl)
        go_wp2_with fail
        exact bodyPost_ret (v := .tuple #[.agg #[.int .i64 n1, .int .i64 n2], .int .i64 0]) (by simp [results, Tryd.results29, go_sem, p0, p1]) rfl ⟨(by rw [HRR.out]), (by repeat' (first | exact HBX | refine Below.setCell ?_ (by first | omega | (simp; done) | (simp; omega)) _ | refine below_drewN ?_ _ | refine Below.alloc ?_ (by first | omega | (simp; done) | (simp; omega)) _))⟩

set_option maxRecDepth 100000 in
set_option maxHeartbeats 400000 in
theorem rp_10 (s : ByteArray) (w : World) (n1 : Int) (o1 : Bool) (r : Int × Int × Int) (T : ByteArray) (hT : s.extract 1 s.size = T) (hsT : T.size ≤ 281474976710656) (hs : s.size ≤ 281474976710656) (h0 : 0 < s.size) (hm : ((s[0].toNat : Int) == 45) = true) (hno : ∀ (k : Nat) (h : k < T.size), k < T.size → ((T[k].toNat : Int) != 47) = true) (hN : NumIs T n1 o1) (b0 : 0 ≤ n1) (b1 : n1 ≤ 10000000000) (hr : r = refP (-n1) 1 ((o1 && (n1 != 0)) && vld (-n1) 1)) :
    Calls Tryd.prog 29 #[.string s] w fun e w' => e = .returned (.tuple #[.agg #[.int .i64 r.1, .int .i64 r.2.1], .int .i64 r.2.2]) ∧ Below w.heap.size w w' := by
  have HN := Lib.hid hN
  have HO := Lib.hid hno
  have HR := Lib.hid hr
  clear hN hno hr
  have f0 : decide ((0 : Int) < (s.size : Int)) = true := by simp; omega
  have f1 : decide ((1 : Int) ≤ (s.size : Int)) = true := by simp; omega
  go_enter Tryd.func29, Tryd.ntmps29
  go_wp2
  clear hT
  go_loopg [5] T.size (fun k x wr => ∃ j : Nat, j ≤ T.size ∧ k = T.size - j ∧ x = .int .i64 j ∧ wr = w.alloc (.cells #[.int .i64 0, .int .i64 0] 23))
  case atStart => exact ⟨0, Nat.zero_le _, by omega, rfl, rfl⟩
  case round =>
    obtain ⟨j, hj, hk, rfl, rfl⟩ := hrel
    have HK := Lib.hid hk
    clear hk
    by_cases hlt : j < T.size
    · have hsz : j < T.size := by omega
      have hc := HO.out j hsz hlt
      go_wp2
      go_roundg (T.size - (j + 1))
      case measure => have := HK.out; omega
      case rel => exact ⟨j + 1, by omega, rfl, by go_num, rfl⟩
    · have e : j = T.size := by omega
      subst e
      have hd : decide ((T.size : Int) < (T.size : Int)) = false := by simp
      have A0 := At2.new w (.int .i64 0) (.int .i64 0) 23
      have Z0 : (w.alloc (.cells #[.int .i64 0, .int .i64 0] 23)).heap.size = w.heap.size + 1 := by simp
      have HB0 : Below w.heap.size w (w.alloc (.cells #[.int .i64 0, .int .i64 0] 23)) := (Below.refl _ _).alloc (Nat.le_refl _) _
      generalize w.alloc (.cells #[.int .i64 0, .int .i64 0] 23) = w0 at A0 Z0 HB0 ⊢
      go_wp2_with fail
      refine (HN.out _).mono ?_
      rintro e w1 ⟨rfl, hb1⟩
      have hz1 := hb1.size
      simp only [World.size_alloc] at hz1
      have A1 := (A0.alloc (by omega) _).below hb1 (by simp; omega)
      have R1 := (At2.new w0 (.int .i64 0) (.int .i64 1) 23).below hb1 (by simp)
      have HB1 : Below w.heap.size w w1 := (HB0.alloc (by omega) _).trans (hb1.mono (by simp; omega))
      clear hb1 A0 HB0
      rw [Z0] at R1 hz1
      clear Z0
      obtain ⟨p0, p1, p2, p3⟩ := A1
      obtain ⟨q0, q1, q2, q3⟩ := R1
      cases ho1 : o1
      all_goals try subst ho1
      · have HRR := Lib.hid (show r = (0, 0, 8) by rw [HR.out]; rfl)
        have HBX := HB1
        go_wp2_with fail
        exact bodyPost_ret (v := .tuple #[.agg #[.int .i64 0, .int .i64 0], .int .i64 8]) (by simp [results, Tryd.results29, go_sem, p0, p1]) rfl ⟨(by rw [HRR.out]), (by repeat' (first | exact HBX | refine Below.setCell ?_ (by first | omega | (simp; done) | (simp; omega)) _ | refine below_drewN ?_ _ | refine Below.alloc ?_ (by first | omega | (simp; done) | (simp; omega)) _))⟩
      cases hn1 : (n1 != 0)
      · have HRR := Lib.hid (show r = (0, 0, 8) by rw [HR.out, hn1]; rfl)
        have HBX := HB1
        go_wp2_with fail
        exact bodyPost_ret (v := .tuple #[.agg #[.int .i64 0, .int .i64 0], .int .i64 8]) (by simp [results, Tryd.results29, go_sem, p0, p1]) rfl ⟨(by rw [HRR.out]), (by repeat' (first | exact HBX | refine Below.setCell ?_ (by first | omega | (simp; done) | (simp; omega)) _ | refine below_drewN ?_ _ | refine Below.alloc ?_ (by first | omega | (simp; done) | (simp; omega)) _))⟩
      go_wp2_with fail
      refine (rvalid_any (-n1) 1 _ (by omega) (by omega) (by omega) (by omega)).mono ?_
      rintro e w4 ⟨rfl, hb4⟩
      have hz4 := hb4.size
      simp only [World.size_setCell] at hz4
      have A4 := (((At2.mk p0 p1 p2 p3).oth (b' := w.heap.size + 1) (by omega) 0 (.int .i64 n1)).oth (b' := w.heap.size + 1) (by omega) 0 (.int .i64 (-n1))).below hb4 (by simp; omega)
      have R4 := (((At2.mk q0 q1 q2 q3).set0 (.int .i64 n1)).set0 (.int .i64 (-n1))).below hb4 (by simp; omega)
      have HBX : Below w.heap.size w w4 := ((HB1.setCell (by simp) _).setCell (by simp) _).trans (hb4.mono (by simp; omega))
      clear hb4 HB1 p0 p1 p2 p3 q0 q1 q2 q3
      obtain ⟨p0, p1, p2, p3⟩ := A4
      obtain ⟨q0, q1, q2, q3⟩ := R4
      cases hv : vld (-n1) 1
      · have HRR := Lib.hid (show r = (0, 0, 8) by rw [HR.out, hn1, hv]; rfl)
        go_wp2_with fail
        exact bodyPost_ret (v := .tuple #[.agg #[.int .i64 0, .int .i64 0], .int .i64 8]) (by simp [results, Tryd.results29, go_sem, p0, p1]) rfl ⟨(by rw [HRR.out]), (by repeat' (first | exact HBX | refine Below.setCell ?_ (by first | omega | (simp; done) | (simp; omega)) _ | refine below_drewN ?_ _ | refine Below.alloc ?_ (by first | omega | (simp; done) | (simp; omega)) _))⟩
      · have HRR := Lib.hid (show r = ((-n1), 1, 0) by rw [HR.out, hn1, hv]; rfl)
        go_wp2_with fail
        exact bodyPost_ret (v := .tuple #[.agg #[.int .i64 (-n1), .int .i64 1], .int .i64 0]) (by simp [results, Tryd.results29, go_sem, p0, p1]) rfl ⟨(by rw [HRR.out]), (by repeat' (first | exact HBX | refine Below.setCell ?_ (by first | omega | (simp; done) | (simp; omega)) _ | refine below_drewN ?_ _ | refine Below.alloc ?_ (by first | omega | (simp; done) | (simp; omega)) _))⟩

set_option maxRecDepth 100000 in
set_option maxHeartbeats 400000 in
theorem rp_11 (s : ByteArray) (w : World) (n1 : Int) (o1 : Bool) (r : Int × Int × Int) (T : ByteArray) (hT : s.extract 1 s.size = T) (hsT : T.size ≤ 281474976710656) (n2 : Int) (o2 : Bool) (K : Nat) (hs : s.size ≤ 281474976710656) (h0 : 0 < s.size) (hm : ((s[0].toNat : Int) == 45) = true) (hKs : K < T.size) (hKc : ((T[K].toNat : Int) != 47) = false) (hno : ∀ (k : Nat) (h : k < T.size), k < K → ((T[k].toNat : Int) != 47) = true) (hN : NumIs (T.extract 0 K) n1 o1) (b0 : 0 ≤ n1) (b1 : n1 ≤ 10000000000) (hN2 : NumIs (T.extract (K + 1) T.size) n2 o2) (b2 : 0 ≤ n2) (b3 : n2 ≤ 10000000000) (hr : r = refP (-n1) n2 (((o1 && o2 && (n2 != 1)) && (n1 != 0)) && vld (-n1) n2)) :
    Calls Tryd.prog 29 #[.string s] w fun e w' => e = .returned (.tuple #[.agg #[.int .i64 r.1, .int .i64 r.2.1], .int .i64 r.2.2]) ∧ Below w.heap.size w w' := by
  have HN := Lib.hid hN
  have HN2 := Lib.hid hN2
  have HO := Lib.hid hno
  have HR := Lib.hid hr
  clear hN hno hr hN2
  have f0 : decide ((0 : Int) < (s.size : Int)) = true := by simp; omega
  have f1 : decide ((1 : Int) ≤ (s.size : Int)) = true := by simp; omega
  go_enter Tryd.func29, Tryd.ntmps29
  go_wp2
  clear hT
  go_loopg [5] K (fun k x wr => ∃ j : Nat, j ≤ K ∧ k = K - j ∧ x = .int .i64 j ∧ wr = w.alloc (.cells #[.int .i64 0, .int .i64 0] 23))
  case atStart => exact ⟨0, Nat.zero_le _, by omega, rfl, rfl⟩
  case round =>
    obtain ⟨j, hj, hk, rfl, rfl⟩ := hrel
    have HK := Lib.hid hk
    clear hk
    by_cases hlt : j < K
    · have hsz : j < T.size := by omega
      have hc := HO.out j hsz hlt
      go_wp2
      go_roundg (K - (j + 1))
      case measure => have := HK.out; omega
      case rel => exact ⟨j + 1, by omega, rfl, by go_num, rfl⟩
    · have e : j = K := by omega
      subst e
      have hd : decide ((j : Int) < (T.size : Int)) = true := by simp; omega
      have A0 := At2.new w (.int .i64 0) (.int .i64 0) 23
      have Z0 : (w.alloc (.cells #[.int .i64 0, .int .i64 0] 23)).heap.size = w.heap.size + 1 := by simp
      have HB0 : Below w.heap.size w (w.alloc (.cells #[.int .i64 0, .int .i64 0] 23)) := (Below.refl _ _).alloc (Nat.le_refl _) _
      generalize w.alloc (.cells #[.int .i64 0, .int .i64 0] 23) = w0 at A0 Z0 HB0 ⊢
      go_wp2_with fail
      refine (HN.out _).mono ?_
      rintro e w1 ⟨rfl, hb1⟩
      have hz1 := hb1.size
      simp only [World.size_alloc] at hz1
      have A1 := (A0.alloc (by omega) _).below hb1 (by simp; omega)
      have R1 := (At2.new w0 (.int .i64 0) (.int .i64 1) 23).below hb1 (by simp)
      have HB1 : Below w.heap.size w w1 := (HB0.alloc (by omega) _).trans (hb1.mono (by simp; omega))
      clear hb1 A0 HB0
      rw [Z0] at R1 hz1
      clear Z0
      obtain ⟨p0, p1, p2, p3⟩ := A1
      obtain ⟨q0, q1, q2, q3⟩ := R1
      go_wp2_with fail
      refine (HN2.out _).mono ?_
      rintro e w2 ⟨rfl, hb2⟩
      have hz2 := hb2.size
      simp only [World.size_setCell] at hz2
      have A2 := ((At2.mk p0 p1 p2 p3).oth (b' := w.heap.size + 1) (by omega) 0 (.int .i64 n1)).below hb2 (by simp; omega)
      have R2 := ((At2.mk q0 q1 q2 q3).set0 (.int .i64 n1)).below hb2 (by simp; omega)
      have HB2 : Below w.heap.size w w2 := (HB1.setCell (by simp) _).trans (hb2.mono (by simp; omega))
      clear hb2 HB1 p0 p1 p2 p3 q0 q1 q2 q3
      obtain ⟨p0, p1, p2, p3⟩ := A2
      obtain ⟨q0, q1, q2, q3⟩ := R2
      cases ho1 : o1
      all_goals try subst ho1
      · have HRR := Lib.hid (show r = (0, 0, 8) by rw [HR.out]; rfl)
        have HBX := HB2
        go_wp2_with fail
        exact bodyPost_ret (v := .tuple #[.agg #[.int .i64 0, .int .i64 0], .int .i64 8]) (by simp [results, Tryd.results29, go_sem, p0, p1]) rfl ⟨(by rw [HRR.out]), (by repeat' (first | exact HBX | refine Below.setCell ?_ (by first | omega | (simp; done) | (simp; omega)) _ | refine below_drewN ?_ _ | refine Below.alloc ?_ (by first | omega | (simp; done) | (simp; omega)) _))⟩
      cases ho2 : o2
      all_goals try subst ho2
      · have HRR := Lib.hid (show r = (0, 0, 8) by rw [HR.out]; rfl)
        have HBX := HB2
        go_wp2_with fail
        exact bodyPost_ret (v := .tuple #[.agg #[.int .i64 0, .int .i64 0], .int .i64 8]) (by simp [results, Tryd.results29, go_sem, p0, p1]) rfl ⟨(by rw [HRR.out]), (by repeat' (first | exact HBX | refine Below.setCell ?_ (by first | omega | (simp; done) | (simp; omega)) _ | refine below_drewN ?_ _ | refine Below.alloc ?_ (by first | omega | (simp; done) | (simp; omega)) _))⟩
      cases hn2 : (n2 != 1)
      · have HRR := Lib.hid (show r = (0, 0, 8) by rw [HR.out, hn2]; rfl)
        have HBX := HB2
        go_wp2_with fail
        exact bodyPost_ret (v := .tuple #[.agg #[.int .i64 0, .int .i64 0], .int .i64 8]) (by simp [results, Tryd.results29, go_sem, p0, p1]) rfl ⟨(by rw [HRR.out]), (by repeat' (first | exact HBX | refine Below.setCell ?_ (by first | omega | (simp; done) | (simp; omega)) _ | refine below_drewN ?_ _ | refine Below.alloc ?_ (by first | omega | (simp; done) | (simp; omega)) _))⟩
      cases hn1 : (n1 != 0)
      · have HRR := Lib.hid (show r = (0, 0, 8) by rw [HR.out, hn2, hn1]; rfl)
        have HBX := HB2
        go_wp2_with fail
        exact bodyPost_ret (v := .tuple #[.agg #[.int .i64 0, .int .i64 0], .int .i64 8]) (by simp [results, Tryd.results29, go_sem, p0, p1]) rfl ⟨(by rw [HRR.out]), (by repeat' (first | exact HBX | refine Below.setCell ?_ (by first | omega | (simp; done) | (simp; omega)) _ | refine below_drewN ?_ _ | refine Below.alloc ?_ (by first | omega | (simp; done) | (simp; omega)) _))⟩
      go_wp2_with fail
      refine (rvalid_any (-n1) n2 _ (by omega) (by omega) (by omega) (by omega)).mono ?_
      rintro e w4 ⟨rfl, hb4⟩
      have hz4 := hb4.size
      simp only [World.size_setCell] at hz4
      have A4 := (((At2.mk p0 p1 p2 p3).oth (b' := w.heap.size + 1) (by omega) 1 (.int .i64 n2)).oth (b' := w.heap.size + 1) (by omega) 0 (.int .i64 (-n1))).below hb4 (by simp; omega)
      have R4 := (((At2.mk q0 q1 q2 q3).set1 (.int .i64 n2)).set0 (.int .i64 (-n1))).below hb4 (by simp; omega)
      have HBX : Below w.heap.size w w4 := ((HB2.setCell (by simp) _).setCell (by simp) _).trans (hb4.mono (by simp; omega))
      clear hb4 HB2 p0 p1 p2 p3 q0 q1 q2 q3
      obtain ⟨p0, p1, p2, p3⟩ := A4
      obtain ⟨q0, q1, q2, q3⟩ := R4
      cases hv : vld (-n1) n2
      · have HRR := Lib.hid (show r = (0, 0, 8) by rw [HR.out, hn2, hn1, hv]; rfl)
        go_wp2_with fail
        exact bodyPost_ret (v := .tuple #[.agg #[.int .i64 0, .int .i64 0], .int .i64 8]) (by simp [results, Tryd.results29, go_sem, p0, p1]) rfl ⟨(by rw [HRR.out]), (by repeat' (first | exact HBX | refine Below.setCell ?_ (by first | omega | (simp; done) | (simp; omega)) _ | refine below_drewN ?_ _ | refine Below.alloc ?_ (by first | omega | (simp; done) | (simp; omega)) _))⟩
      · have HRR := Lib.hid (show r = ((-n1), n2, 0) by rw [HR.out, hn2, hn1, hv]; rfl)
        go_wp2_with fail
        exact bodyPost_ret (v := .tuple #[.agg #[.int .i64 (-n1), .int .i64 n2], .int .i64 0]) (by simp [results, Tryd.results29, go_sem, p0, p1]) rfl ⟨(by rw [HRR.out]), (by repeat' (first | exact HBX | refine Below.setCell ?_ (by first | omega | (simp; done) | (simp; omega)) _ | refine below_drewN ?_ _ | refine Below.alloc ?_ (by first | omega | (simp; done) | (simp; omega)) _))⟩
end Go.Proofs.YtohnmffokichkaaDoor
