/-
  Contract of head: the examples of the chapter.
-/
import Derived.Test.YtomcngnfdflkkaaSOps
namespace Go.Proofs.Ytomcngnfdflkkaa
open Go.RowKit Spn Go.Sort

theorem noV_is {l M : List (Int × Int)} (hl : sts l = true) (hM : Vl M) (h : ∀ d, cov M d = cov l d) : noV l = M ∧ noE l = 0 := by
  have e : M = runs (cov l) := runs_is hM.nf h (st_cov (sts_iff.1 hl))
  unfold noV noE swV swE
  rw [hl, ← e, if_pos rfl, if_pos rfl, if_pos hM.1, if_pos hM.1]
  exact ⟨rfl, rfl⟩
theorem kf_in {kf : Bool → Bool → Bool} (hk : kf false false = false) {a b : List (Int × Int)} (ha : ∀ s, s ∈ a → st s = true) (hb : ∀ s, s ∈ b → st s = true) (d : Int) (hd : kf (cov a d) (cov b d) = true) : 0 ≤ d ∧ d < 36525 := by
  cases h1 : cov a d with
  | true => exact st_cov ha d h1
  | false => cases h2 : cov b d with
    | true => exact st_cov hb d h2
    | false => rw [h1, h2, hk] at hd; cases hd
theorem opV_is {kf : Bool → Bool → Bool} (hk : kf false false = false) {a b M : List (Int × Int)} (ha : vl a = true) (hb : vl b = true) (hM : Vl M) (h : ∀ d, cov M d = kf (cov a d) (cov b d)) : opV kf a b = M ∧ opE kf a b = 0 := by
  have e : M = runs fun d => kf (cov a d) (cov b d) := runs_is hM.nf h (kf_in hk (vl_iff.1 ha).2.1 (vl_iff.1 hb).2.1)
  unfold opV opE swV swE
  rw [ha, hb, ← e, if_pos hM.1, if_pos hM.1]
  exact ⟨rfl, rfl⟩

theorem sl_new (w : World) (l : List (Int × Int)) (cells : Array Value) (T : TypeId) (n : Nat) (hn : l.length = n) (h : cells.toList = fl l) (hm : l.length ≤ 1000) (hI : ∀ s, s ∈ l → In64 s.1 ∧ In64 s.2) :
    Sl (w.alloc (.cells cells T)) (some ⟨w.heap.size, 0, none⟩) w.heap.size 0 n l := by
  subst hn
  refine ⟨rfl, fun _ => rfl, fun k hk => ?_, fun _ => by simp, by omega, hI⟩
  rw [World.cell?_alloc_new, World.cell?_alloc_new, Nat.zero_add, ← Array.getElem?_toList, ← Array.getElem?_toList, h]
  exact fl_at l k hk
/-- A call whose value is known. -/
theorem out_is {w w' : World} {l M : List (Int × Int)} {er x : Int} {e : Ending} (h : Out2 w l er e w') (hl : l = M) (hx : er = x) : ∃ p b cap, e = .returned (.tuple #[.slice p M.length cap, .int .i64 x]) ∧ Sl w' p b 0 M.length M ∧ RowKit.Below w.heap.size w w' := by
  subst hl hx
  obtain ⟨p, b, len, cap, rfl, hs, hb⟩ := h
  have := hs.1
  subst this
  exact ⟨p, b, cap, rfl, hs, hb⟩
theorem cov_two {l m : List (Int × Int)} (h : ∀ d, cov l d = true ↔ cov m d = true) (d : Int) : cov l d = cov m d := Bool.eq_iff_iff.2 (h d)

theorem hd1 : noV [(5, 8), (1, 3), (3, 4)] = [(1, 4), (5, 8)] ∧ noE [(5, 8), (1, 3), (3, 4)] = 0 :=
  noV_is (by decide) (by decide) fun d => Bool.eq_iff_iff.2 (by simp [cov]; omega)
theorem hd2 : opV kU [(1, 3)] [(3, 5)] = [(1, 5)] ∧ opE kU [(1, 3)] [(3, 5)] = 0 :=
  opV_is rfl (by decide) (by decide) (by decide) fun d => Bool.eq_iff_iff.2 (by simp [cov, kU]; omega)
theorem hd3 : opV kM [(1, 3)] [(3, 5)] = [] ∧ opE kM [(1, 3)] [(3, 5)] = 0 :=
  opV_is rfl (by decide) (by decide) (by decide) fun d => Bool.eq_iff_iff.2 (by simp [cov, kM]; omega)
theorem hd4 : opV kW [(1, 9)] [(3, 5)] = [(1, 3), (5, 9)] ∧ opE kW [(1, 9)] [(3, 5)] = 0 :=
  opV_is rfl (by decide) (by decide) (by decide) fun d => Bool.eq_iff_iff.2 (by simp [cov, kW]; omega)
theorem hd5 : noV [(3, 3)] = [] ∧ noE [(3, 3)] = 1 := by
  unfold noV noE
  rw [show sts [(3, 3)] = false by decide]
  exact ⟨rfl, rfl⟩
theorem hd6 : ctV [(1, 3), (5, 9)] = 6 ∧ ctE [(1, 3), (5, 9)] = 0 := by
  obtain ⟨h1, h2⟩ := ct_ok (l := [(1, 3), (5, 9)]) (by decide)
  rw [h1, h2]; decide
theorem hd7 : vl [(1, 3), (3, 5)] = false := by decide

theorem sl_at (w : World) (nb : Nat) (hnb : nb = w.heap.size) (l : List (Int × Int)) (cells : Array Value) (T : TypeId) (n : Nat) (hn : l.length = n) (h : cells.toList = fl l) (hm : l.length ≤ 1000) (hI : ∀ s, s ∈ l → In64 s.1 ∧ In64 s.2) :
    Sl (w.alloc (.cells cells T)) (some ⟨nb, 0, none⟩) nb 0 n l := by subst hnb; exact sl_new w l cells T n hn h hm hI
theorem same_b (l m : List (Int × Int)) (c : Bool) (hc : decide (l = m) = c) (p p' : Option Addr) (b off cap len b' off' cap' len' : Nat) (w : World) (hS : Sl w p b off len l) (hS' : Sl w p' b' off' len' m) :
    Calls Try.prog 14 #[.slice p len cap, .slice p' len' cap'] w fun e w' => e = .returned (.bool c) ∧ RowKit.Below w.heap.size w w' := by
  rw [← hc]; exact same_any l m p p' b off cap len b' off' cap' len' w hS hS'
def inB (l : List (Int × Int)) : Bool := l.all fun s => decide (-9223372036854775808 ≤ s.1) && decide (s.1 ≤ 9223372036854775807) && decide (-9223372036854775808 ≤ s.2) && decide (s.2 ≤ 9223372036854775807)
theorem inB_all {l : List (Int × Int)} (h : inB l = true) : ∀ s, s ∈ l → In64 s.1 ∧ In64 s.2 := fun s hs => by
  unfold inB at h
  have := List.all_eq_true.1 h s hs
  simp only [Bool.and_eq_true, decide_eq_true_eq] at this
  unfold In64; omega

set_option maxRecDepth 100000 in
set_option maxHeartbeats 8000000 in
theorem head_any (w : World) : Calls Try.prog 9 #[] w fun e w' => e = .returned (.bool true) ∧ RowKit.Below w.heap.size w w' := by
  have HB0 : Hid (RowKit.Below w.heap.size w w) := Below.refl _ _
  go_enter Try.func9, Try.ntmps9
  go_wp2_with fail
  refine (Normal_any [(5, 8), (1, 3), (3, 4)] _ _ _ _ _ _ (sl_at w w.heap.size (by simp) [(5, 8), (1, 3), (3, 4)] #[.int .i64 5, .int .i64 8, .int .i64 1, .int .i64 3, .int .i64 3, .int .i64 4] 37 3 rfl rfl (by decide) (inB_all (by decide))) (by omega)).mono ?_
  rintro _ w1 hO
  obtain ⟨p1, g1, c1, rfl, hs, hb⟩ := out_is hO hd1.1 hd1.2
  clear hO
  have HB1 : Hid (RowKit.Below w.heap.size w w1) := (HB0.out.alloc HB0.out.size _).trans (hb.mono (by have := HB0.out.size; first | omega | (simp; omega) | (simp; done)))
  have S1 := Lib.hid hs
  clear hs hb HB0
  go_wp2_with fail
  refine (Union_any [(1, 3)] [(3, 5)] _ _ _ _ _ _ _ _ _ _ _ ((sl_at w1 w1.heap.size (by simp) [(1, 3)] #[.int .i64 1, .int .i64 3] 37 1 rfl rfl (by decide) (inB_all (by decide))).below ((Below.refl _ _).alloc (Nat.le_refl _) _)) (sl_at (w1.alloc (.cells #[.int .i64 1, .int .i64 3] 37)) (w1.heap.size + 1) (by simp) [(3, 5)] #[.int .i64 3, .int .i64 5] 37 1 rfl rfl (by decide) (inB_all (by decide)))).mono ?_
  rintro _ w2 hO
  obtain ⟨p2, g2, c2, rfl, hs, hb⟩ := out_is hO hd2.1 hd2.2
  clear hO
  have HB2 : Hid (RowKit.Below w.heap.size w w2) := ((HB1.out.alloc HB1.out.size _).alloc (by have := HB1.out.size; first | omega | (simp; omega) | (simp; done)) _).trans (hb.mono (by have := HB1.out.size; first | omega | (simp; omega) | (simp; done)))
  have S1 := Lib.hid ((S1.out.below (((Below.refl _ _).alloc (Nat.le_refl _) _).alloc (by simp) _)).below hb)
  have S2 := Lib.hid hs
  clear hs hb HB1
  go_wp2_with fail
  refine (Meet_any [(1, 3)] [(3, 5)] _ _ _ _ _ _ _ _ _ _ _ ((sl_at w2 w2.heap.size (by simp) [(1, 3)] #[.int .i64 1, .int .i64 3] 37 1 rfl rfl (by decide) (inB_all (by decide))).below ((Below.refl _ _).alloc (Nat.le_refl _) _)) (sl_at (w2.alloc (.cells #[.int .i64 1, .int .i64 3] 37)) (w2.heap.size + 1) (by simp) [(3, 5)] #[.int .i64 3, .int .i64 5] 37 1 rfl rfl (by decide) (inB_all (by decide)))).mono ?_
  rintro _ w3 hO
  obtain ⟨p3, g3, c3, rfl, hs, hb⟩ := out_is hO hd3.1 hd3.2
  clear hO
  have HB3 : Hid (RowKit.Below w.heap.size w w3) := ((HB2.out.alloc HB2.out.size _).alloc (by have := HB2.out.size; first | omega | (simp; omega) | (simp; done)) _).trans (hb.mono (by have := HB2.out.size; first | omega | (simp; omega) | (simp; done)))
  have S1 := Lib.hid ((S1.out.below (((Below.refl _ _).alloc (Nat.le_refl _) _).alloc (by simp) _)).below hb)
  have S2 := Lib.hid ((S2.out.below (((Below.refl _ _).alloc (Nat.le_refl _) _).alloc (by simp) _)).below hb)
  clear hs hb HB2
  go_wp2_with fail
  refine (Without_any [(1, 9)] [(3, 5)] _ _ _ _ _ _ _ _ _ _ _ ((sl_at w3 w3.heap.size (by simp) [(1, 9)] #[.int .i64 1, .int .i64 9] 37 1 rfl rfl (by decide) (inB_all (by decide))).below ((Below.refl _ _).alloc (Nat.le_refl _) _)) (sl_at (w3.alloc (.cells #[.int .i64 1, .int .i64 9] 37)) (w3.heap.size + 1) (by simp) [(3, 5)] #[.int .i64 3, .int .i64 5] 37 1 rfl rfl (by decide) (inB_all (by decide)))).mono ?_
  rintro _ w4 hO
  obtain ⟨p4, g4, c4, rfl, hs, hb⟩ := out_is hO hd4.1 hd4.2
  clear hO
  have HB4 : Hid (RowKit.Below w.heap.size w w4) := ((HB3.out.alloc HB3.out.size _).alloc (by have := HB3.out.size; first | omega | (simp; omega) | (simp; done)) _).trans (hb.mono (by have := HB3.out.size; first | omega | (simp; omega) | (simp; done)))
  have S1 := Lib.hid ((S1.out.below (((Below.refl _ _).alloc (Nat.le_refl _) _).alloc (by simp) _)).below hb)
  have S2 := Lib.hid ((S2.out.below (((Below.refl _ _).alloc (Nat.le_refl _) _).alloc (by simp) _)).below hb)
  have S4 := Lib.hid hs
  clear hs hb HB3
  go_wp2_with fail
  refine (Normal_any [(3, 3)] _ _ _ _ _ _ (sl_at w4 w4.heap.size (by simp) [(3, 3)] #[.int .i64 3, .int .i64 3] 37 1 rfl rfl (by decide) (inB_all (by decide))) (by omega)).mono ?_
  rintro _ w5 hO
  obtain ⟨p5, g5, c5, rfl, hs, hb⟩ := out_is hO hd5.1 hd5.2
  clear hO
  have HB5 : Hid (RowKit.Below w.heap.size w w5) := (HB4.out.alloc HB4.out.size _).trans (hb.mono (by have := HB4.out.size; first | omega | (simp; omega) | (simp; done)))
  have S1 := Lib.hid ((S1.out.below ((Below.refl _ _).alloc (Nat.le_refl _) _)).below hb)
  have S2 := Lib.hid ((S2.out.below ((Below.refl _ _).alloc (Nat.le_refl _) _)).below hb)
  have S4 := Lib.hid ((S4.out.below ((Below.refl _ _).alloc (Nat.le_refl _) _)).below hb)
  clear hs hb HB4
  go_wp2_with fail
  refine (Count_any [(1, 3), (5, 9)] _ _ _ _ _ _ (sl_at w5 w5.heap.size (by simp) [(1, 3), (5, 9)] #[.int .i64 1, .int .i64 3, .int .i64 5, .int .i64 9] 37 2 rfl rfl (by decide) (inB_all (by decide)))).mono ?_
  rw [hd6.1, hd6.2]
  rintro _ w6 ⟨rfl, hb⟩
  have HB6 : Hid (RowKit.Below w.heap.size w w6) := (HB5.out.alloc HB5.out.size _).trans (hb.mono (by have := HB5.out.size; first | omega | (simp; omega) | (simp; done)))
  have S1 := Lib.hid ((S1.out.below ((Below.refl _ _).alloc (Nat.le_refl _) _)).below hb)
  have S2 := Lib.hid ((S2.out.below ((Below.refl _ _).alloc (Nat.le_refl _) _)).below hb)
  have S4 := Lib.hid ((S4.out.below ((Below.refl _ _).alloc (Nat.le_refl _) _)).below hb)
  clear hb HB5
  go_wp2_with fail
  refine (same_b [(1, 4), (5, 8)] [(1, 4), (5, 8)] true (decide_eq_true rfl) _ _ _ _ _ _ _ _ _ _ _ (S1.out.below ((Below.refl _ _).alloc (Nat.le_refl _) _)) (sl_at w6 w6.heap.size (by simp) [(1, 4), (5, 8)] #[.int .i64 1, .int .i64 4, .int .i64 5, .int .i64 8] 37 2 rfl rfl (by decide) (inB_all (by decide)))).mono ?_
  rintro _ w7 ⟨rfl, hb⟩
  have HB7 : Hid (RowKit.Below w.heap.size w w7) := (HB6.out.alloc HB6.out.size _).trans (hb.mono (by have := HB6.out.size; first | omega | (simp; omega) | (simp; done)))
  have S1 := Lib.hid ((S1.out.below ((Below.refl _ _).alloc (Nat.le_refl _) _)).below hb)
  have S2 := Lib.hid ((S2.out.below ((Below.refl _ _).alloc (Nat.le_refl _) _)).below hb)
  have S4 := Lib.hid ((S4.out.below ((Below.refl _ _).alloc (Nat.le_refl _) _)).below hb)
  clear hb HB6
  go_wp2_with fail
  refine (same_b [(1, 5)] [(1, 5)] true (decide_eq_true rfl) _ _ _ _ _ _ _ _ _ _ _ (S2.out.below ((Below.refl _ _).alloc (Nat.le_refl _) _)) (sl_at w7 w7.heap.size (by simp) [(1, 5)] #[.int .i64 1, .int .i64 5] 37 1 rfl rfl (by decide) (inB_all (by decide)))).mono ?_
  rintro _ w8 ⟨rfl, hb⟩
  have HB8 : Hid (RowKit.Below w.heap.size w w8) := (HB7.out.alloc HB7.out.size _).trans (hb.mono (by have := HB7.out.size; first | omega | (simp; omega) | (simp; done)))
  have S1 := Lib.hid ((S1.out.below ((Below.refl _ _).alloc (Nat.le_refl _) _)).below hb)
  have S2 := Lib.hid ((S2.out.below ((Below.refl _ _).alloc (Nat.le_refl _) _)).below hb)
  have S4 := Lib.hid ((S4.out.below ((Below.refl _ _).alloc (Nat.le_refl _) _)).below hb)
  clear hb HB7
  go_wp2_with fail
  refine (same_b [(1, 3), (5, 9)] [(1, 3), (5, 9)] true (decide_eq_true rfl) _ _ _ _ _ _ _ _ _ _ _ (S4.out.below ((Below.refl _ _).alloc (Nat.le_refl _) _)) (sl_at w8 w8.heap.size (by simp) [(1, 3), (5, 9)] #[.int .i64 1, .int .i64 3, .int .i64 5, .int .i64 9] 37 2 rfl rfl (by decide) (inB_all (by decide)))).mono ?_
  rintro _ w9 ⟨rfl, hb⟩
  have HB9 : Hid (RowKit.Below w.heap.size w w9) := (HB8.out.alloc HB8.out.size _).trans (hb.mono (by have := HB8.out.size; first | omega | (simp; omega) | (simp; done)))
  have S1 := Lib.hid ((S1.out.below ((Below.refl _ _).alloc (Nat.le_refl _) _)).below hb)
  have S2 := Lib.hid ((S2.out.below ((Below.refl _ _).alloc (Nat.le_refl _) _)).below hb)
  have S4 := Lib.hid ((S4.out.below ((Below.refl _ _).alloc (Nat.le_refl _) _)).below hb)
  clear hb HB8
  go_wp2_with fail
  refine (valid_any [(1, 3), (3, 5)] _ _ _ _ _ _ (sl_at w9 w9.heap.size (by simp) [(1, 3), (3, 5)] #[.int .i64 1, .int .i64 3, .int .i64 3, .int .i64 5] 37 2 rfl rfl (by decide) (inB_all (by decide)))).mono ?_
  rw [hd7]
  rintro _ w10 ⟨rfl, hb⟩
  have HB10 : Hid (RowKit.Below w.heap.size w w10) := (HB9.out.alloc HB9.out.size _).trans (hb.mono (by have := HB9.out.size; first | omega | (simp; omega) | (simp; done)))
  clear hb
  go_wp2
  go_ret
  exact ⟨rfl, HB10.out⟩
end Go.Proofs.Ytomcngnfdflkkaa
