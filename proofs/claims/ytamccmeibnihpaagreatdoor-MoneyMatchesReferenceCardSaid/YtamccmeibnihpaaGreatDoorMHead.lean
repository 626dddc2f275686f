/-
  Contract of head: the examples of the chapter.
-/
import Derived.Test.YtamccmeibnihpaaGreatDoorMWalks2
import Derived.Test.YtamccmeibnihpaaGreatDoorMText
namespace Go.Proofs.YtamccmeibnihpaaGreatDoor
open Go.RowKit Go.Lib Go.Sort Go.Proofs.YtamccmeibnihpaaGreatDoor.MSort

theorem ordL_id {n : Nat} (r : Rests n) (h : ∀ x y : Fin (n + 1), x.val < y.val → ltR r y x = false) : ordL r = List.finRange (n + 1) := by
  have hp := allPlaces_parts r (n + 1) rfl
  have := ordL_of r (d := allPlaces n) rfl (permIn_refl (allPlaces n) 0 (n + 1)) (fun i j _ hij hj => by
    rw [allPlaces_get n i (by omega), allPlaces_get n j (by omega)]
    exact h _ _ hij)
  rw [← this]; simp [allPlaces]

theorem At.below {w w1 : World} {b off B : Nat} {l : List Int} (h : At w b off l) (hB : RowKit.Below B w w1) (hb : b < B) : At w1 b off l := fun k hk => (hB.cell (p := ⟨b, off + k, none⟩) hb).trans (h k hk)

theorem at3 (w : World) (x y z : Int) (T : Nat) : At (w.alloc (.cells #[.int .i64 x, .int .i64 y, .int .i64 z] T)) w.heap.size 0 [x, y, z] := by
  intro k hk
  rw [World.cell?_alloc_new, Nat.zero_add]
  simp only [List.length_cons, List.length_nil] at hk
  match k, hk with
  | 0, _ => rfl
  | 1, _ => rfl
  | 2, _ => rfl

theorem hd_scale (c n d x : Int) (w : World) (n0 : -9223372036854775808 ≤ n) (n1 : n ≤ 9223372036854775807) (d0 : -9223372036854775808 ≤ d) (d1 : d ≤ 9223372036854775807) (h : sclR c n d = (x, 0)) :
    Calls Tryz.prog 8 #[.int .i64 c, .agg #[.int .i64 n, .int .i64 d]] w fun e w' => e = .returned (.tuple #[.int .i64 x, .int .i64 0]) ∧ RowKit.Below w.heap.size w w' := by
  have k := scale_any c n d w n0 n1 d0 d1
  rw [h] at k
  exact k

theorem hd_split (c x y z : Int) (a b d : Int) (w : World) (blk : Nat) (hA : At w blk 0 [a, b, d]) (hb : blk < w.heap.size) (h1 : splL c [a, b, d] = [x, y, z]) (h2 : splE c [a, b, d] = 0) :
    Calls Tryz.prog 10 #[.int .i64 c, .slice (some ⟨blk, 0, none⟩) 3 3] w fun e w' =>
      ∃ k, e = .returned (.tuple #[.slice (some ⟨k, 0, none⟩) 3 3, .int .i64 0]) ∧ w.heap.size ≤ k ∧ k < w'.heap.size ∧ At w' k 0 [x, y, z] ∧ RowKit.Below w.heap.size w w' := by
  refine (split_any c [a, b, d] (some ⟨blk, 0, none⟩) blk 0 3 3 w rfl (fun _ => rfl) hA (by omega) (fun _ => hb)).mono ?_
  rintro e w' ⟨p', k, he, hp, hAt, hB⟩
  rw [h1] at hp hAt
  rw [h1, h2] at he
  obtain ⟨e1, e2, e3⟩ := hp (by simp)
  subst e1
  exact ⟨k, he, e2, e3, hAt, hB⟩

theorem spl1 : splL 100 [1, 1, 1] = [34, 33, 33] := by
  have e : ordL (rsR 100 3 [1, 1, 1] 2) = List.finRange 3 := ordL_id _ (by decide +kernel)
  have hw : whole [1, 1, 1] = 3 := by decide +kernel
  unfold splL
  rw [if_pos (by rw [hw]; decide +kernel), hw]
  show partL 100 3 [1, 1, 1] 2 = _
  unfold partL upL
  rw [e]
  decide +kernel
theorem spl2 : splL 5 [1, 2, 3] = [1, 2, 2] := by
  have e : ordL (rsR 5 6 [1, 2, 3] 2) = List.finRange 3 := ordL_id _ (by decide +kernel)
  have hw : whole [1, 2, 3] = 6 := by decide +kernel
  unfold splL
  rw [if_pos (by rw [hw]; decide +kernel), hw]
  show partL 5 6 [1, 2, 3] 2 = _
  unfold partL upL
  rw [e]
  decide +kernel

theorem itoa_small (n : Nat) (l : List UInt8) (h : Lib.decDigits n = l) : Lib.itoa (n : Int) = l := by
  unfold Lib.itoa; rw [if_neg (by omega)]; exact h

theorem hd_text1 (w : World) (hE : Tab w) : Calls Tryz.prog 13 #[.int .i64 1205] w fun e w' => e = .returned (.tuple #[.string ⟨#[49, 50, 46, 48, 53]⟩, .int .i64 0]) ∧ RowKit.Below w.heap.size w w' := by
  have k := text_any 1205 w hE
  have e1 : Lib.itoa 12 = [49, 50] := itoa_small 12 _ (by simp [Lib.decDigits])
  have e2 : Lib.itoa 0 = [48] := itoa_small 0 _ (by simp [Lib.decDigits])
  have e3 : Lib.itoa 5 = [53] := itoa_small 5 _ (by simp [Lib.decDigits])
  have e : texT 1205 = [49, 50, 46, 48, 53] := by
    unfold texT; rw [if_pos (by decide)]
    unfold txM; rw [if_neg (by omega)]
    show Lib.itoa 12 ++ ([46] ++ (Lib.itoa 0 ++ Lib.itoa 5)) = _
    rw [e1, e2, e3]; rfl
  rw [e, show texE 1205 = 0 by decide] at k
  exact k
theorem hd_text2 (w : World) (hE : Tab w) : Calls Tryz.prog 13 #[.int .i64 (-30)] w fun e w' => e = .returned (.tuple #[.string ⟨#[45, 48, 46, 51, 48]⟩, .int .i64 0]) ∧ RowKit.Below w.heap.size w w' := by
  have k := text_any (-30) w hE
  have e2 : Lib.itoa 0 = [48] := itoa_small 0 _ (by simp [Lib.decDigits])
  have e3 : Lib.itoa 3 = [51] := itoa_small 3 _ (by simp [Lib.decDigits])
  have e : texT (-30) = [45, 48, 46, 51, 48] := by
    unfold texT; rw [if_pos (by decide)]
    unfold txM; rw [if_pos (by omega)]
    show [45] ++ (Lib.itoa 0 ++ ([46] ++ (Lib.itoa 3 ++ Lib.itoa 0))) = _
    rw [e2, e3]; rfl
  rw [e, show texE (-30) = 0 by decide] at k
  exact k

set_option maxRecDepth 100000 in
set_option maxHeartbeats 4000000 in
theorem head_any (w : World) (hE : Tab w) : Calls Tryz.prog 4 #[] w fun e w' => e = .returned (.bool true) ∧ RowKit.Below w.heap.size w w' := by
  have HE := Lib.hid hE
  clear hE
  go_enter Tryz.func4, Tryz.ntmps4
  go_wp2_with fail
  refine (hd_scale 7 1 2 4 _ (by omega) (by omega) (by omega) (by omega) (by decide +kernel)).mono ?_
  rintro e w1 ⟨rfl, hb1⟩
  have A1 := (At2.new w (.int .i64 1) (.int .i64 2) 24).below hb1 (by simp)
  have HB1 : Aside (RowKit.Below w.heap.size w w1) := ((RowKit.Below.refl _ _).alloc (Nat.le_refl _) _).trans (hb1.mono (by simp))
  clear hb1
  obtain ⟨a0, a1, a2, a3⟩ := A1
  go_wp2_with fail
  refine (hd_scale (-7) 1 2 (-4) _ (by omega) (by omega) (by omega) (by omega) (by decide +kernel)).mono ?_
  rintro e w2 ⟨rfl, hb2⟩
  have HB2 : Aside (RowKit.Below w.heap.size w w2) := HB1.out.trans (hb2.mono HB1.out.size)
  clear hb2 HB1 a0 a1 a2 a3
  go_wp2_with fail
  refine (hd_scale 4 1 3 1 _ (by omega) (by omega) (by omega) (by omega) (by decide +kernel)).mono ?_
  rintro e w3 ⟨rfl, hb3⟩
  have HB3 : Aside (RowKit.Below w.heap.size w w3) := HB2.out.trans (hb3.mono HB2.out.size)
  clear hb3 HB2
  go_wp2_with fail
  refine (hd_split 100 34 33 33 1 1 1 _ _ (at3 w3 1 1 1 _) (by simp) spl1 (by decide +kernel)).mono ?_
  rintro e w4 ⟨k1, rfl, hk1, hk2, h4, hb4⟩
  simp only [World.size_alloc] at hk1
  have HB4 : Aside (RowKit.Below w.heap.size w w4) := (HB3.out.alloc HB3.out.size _).trans (hb4.mono (by have := HB3.out.size; simp; omega))
  have D4 : Aside (At w4 k1 0 [34, 33, 33]) := h4
  clear hb4 HB3 h4
  go_wp2_with fail
  refine (hd_split 5 1 2 2 1 2 3 _ _ (at3 w4 1 2 3 _) (by simp) spl2 (by decide +kernel)).mono ?_
  rintro e w5 ⟨k2, rfl, hk3, hk4, h5, hb5⟩
  simp only [World.size_alloc] at hk3
  have HB5 : Aside (RowKit.Below w.heap.size w w5) := (HB4.out.alloc HB4.out.size _).trans (hb5.mono (by have := HB4.out.size; simp; omega))
  have D5 : Aside (At w5 k1 0 [34, 33, 33]) := (D4.out.below ((RowKit.Below.refl w4.heap.size w4).alloc (Nat.le_refl _) _) hk2).below hb5 (by simp; omega)
  have I5 : Aside (At w5 k2 0 [1, 2, 2]) := h5
  have hk5 : k1 < w5.heap.size := by omega
  clear hb5 HB4 h5 D4
  go_wp2_with fail
  refine (hd_text1 _ (HE.out.below HB5.out)).mono ?_
  rintro e w6 ⟨rfl, hb6⟩
  have hz6 := hb6.size
  have HB6 : Aside (RowKit.Below w.heap.size w w6) := HB5.out.trans (hb6.mono HB5.out.size)
  have D6 : Aside (At w6 k1 0 [34, 33, 33]) := D5.out.below hb6 hk5
  have I6 : Aside (At w6 k2 0 [1, 2, 2]) := I5.out.below hb6 hk4
  clear hb6 HB5 D5 I5
  go_wp2_with fail
  refine (hd_text2 _ (HE.out.below HB6.out)).mono ?_
  rintro e w7 ⟨rfl, hb7⟩
  have hz7 := hb7.size
  have HB7 : Aside (RowKit.Below w.heap.size w w7) := HB6.out.trans (hb7.mono HB6.out.size)
  have D7 : Aside (At w7 k1 0 [34, 33, 33]) := D6.out.below hb7 (by omega)
  have I7 : Aside (At w7 k2 0 [1, 2, 2]) := I6.out.below hb7 (by omega)
  clear hb7 HB6 D6 I6
  go_wp2_with fail
  have hadd := add_any [1, 2, -5] (some ⟨w7.heap.size, 0, none⟩) w7.heap.size 0 3 3 (w7.alloc (.cells #[.int .i64 1, .int .i64 2, .int .i64 (-5)] 3)) rfl (fun _ => rfl) (at3 w7 1 2 (-5) _) (by omega)
  rw [show addR [1, 2, -5] = (-2, 0) by decide +kernel] at hadd
  refine hadd.mono ?_
  rintro e w8 ⟨rfl, rfl⟩
  clear hadd
  have HB8 : Aside (RowKit.Below w.heap.size w (w7.alloc (.cells #[.int .i64 1, .int .i64 2, .int .i64 (-5)] 3))) := HB7.out.alloc HB7.out.size _
  have D8 : Aside (At (w7.alloc (.cells #[.int .i64 1, .int .i64 2, .int .i64 (-5)] 3)) k1 0 [34, 33, 33]) := D7.out.below ((RowKit.Below.refl w7.heap.size w7).alloc (Nat.le_refl _) _) (by omega)
  have I8 : Aside (At (w7.alloc (.cells #[.int .i64 1, .int .i64 2, .int .i64 (-5)] 3)) k2 0 [1, 2, 2]) := I7.out.below ((RowKit.Below.refl w7.heap.size w7).alloc (Nat.le_refl _) _) (by omega)
  have hz8 : (w7.alloc (.cells #[.int .i64 1, .int .i64 2, .int .i64 (-5)] 3)).heap.size = w7.heap.size + 1 := by simp
  clear HB7 D7 I7
  generalize w7.alloc (.cells #[.int .i64 1, .int .i64 2, .int .i64 (-5)] 3) = w8 at HB8 D8 I8 hz8 ⊢
  have hz9 : w7.heap.size < w8.heap.size := by omega
  clear hz8
  go_wp2_with fail
  refine (same_any [34, 33, 33] [34, 33, 33] _ _ k1 0 3 3 w8.heap.size 0 3 3 _ rfl rfl (fun _ => rfl) (fun _ => rfl) (D8.out.below ((RowKit.Below.refl w8.heap.size w8).alloc (Nat.le_refl _) _) (by omega)) (at3 w8 34 33 33 _) (by omega) (by omega)).mono ?_
  rintro e w9 ⟨rfl, q, hw9⟩
  have hB9 : RowKit.Below w8.heap.size w8 w9 := by rw [hw9]; exact below_drewN ((RowKit.Below.refl w8.heap.size w8).alloc (Nat.le_refl _) _) q
  have HB9 : Aside (RowKit.Below w.heap.size w w9) := HB8.out.trans (hB9.mono HB8.out.size)
  have I9 : Aside (At w9 k2 0 [1, 2, 2]) := I8.out.below hB9 (by omega)
  have hz10 := hB9.size
  clear hw9 HB8 D8 I8 hB9
  go_wp2_with fail
  refine (same_any [1, 2, 2] [1, 2, 2] _ _ k2 0 3 3 w9.heap.size 0 3 3 _ rfl rfl (fun _ => rfl) (fun _ => rfl) (I9.out.below ((RowKit.Below.refl w9.heap.size w9).alloc (Nat.le_refl _) _) (by omega)) (at3 w9 1 2 2 _) (by omega) (by omega)).mono ?_
  rintro e w10 ⟨rfl, q, hw10⟩
  have hB10 : RowKit.Below w9.heap.size w9 w10 := by rw [hw10]; exact below_drewN ((RowKit.Below.refl w9.heap.size w9).alloc (Nat.le_refl _) _) q
  have HB10 : Aside (RowKit.Below w.heap.size w w10) := HB9.out.trans (hB10.mono HB9.out.size)
  clear hw10 HB9 I9 hB10
  go_wp2
  go_ret
  exact ⟨rfl, HB10.out⟩
end Go.Proofs.YtamccmeibnihpaaGreatDoor
