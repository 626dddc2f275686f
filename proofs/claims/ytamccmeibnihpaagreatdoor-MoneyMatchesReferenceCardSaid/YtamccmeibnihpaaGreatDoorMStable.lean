/-
  The walks of slices.symMergeCmpFunc, slices.stableCmpFunc and slices.SortStableFunc at at most 64 places: the places are sorted by their order.
-/
import Derived.Test.YtamccmeibnihpaaGreatDoorMMergeC
import Derived.Test.YtamccmeibnihpaaGreatDoorMShelfS
namespace Go.Proofs.YtamccmeibnihpaaGreatDoor
open Go.RowKit Go.Lib Go.Sort Go.Shelf Go.Proofs.YtamccmeibnihpaaGreatDoor.MSort

variable {n : Nat}

theorem merges_all (r : Rests n) (g : Nat) (cb : Array Value) (eg : ∀ args w, (callFunc g args).run Tryz.prog w = .ok (.enter g args) w) (blk off cap : Nat) (sz : Nat) (d0 : Array (Fin (n + 1))) (w0 : World)
    (hcmp : CmpLays1 Tryz.prog g cb en (cfR r) blk off sz w0) (R : Row1 en w0 blk off d0) (hs : d0.size = sz) (hsz : sz < 4611686018427387904) :
    ∀ (l a m b : Nat), b - a ≤ l → a < m → m < b → b ≤ sz → Merges r g cb blk off cap sz w0 a m b
  | 0, a, m, b, hl, h1, h2, _ => by omega
  | l + 1, a, m, b, hl, h1, h2, h3 => by
    intro A M B d w hA hM hB hd T S
    subst hA hM hB
    by_cases c1 : m = a + 1
    · exact merge_left_any r g cb eg blk off cap a m b sz d0 d w0 w hcmp R hs S hd c1 h2 h3 hsz T
    · by_cases c2 : b = m + 1
      · exact merge_right_any r g cb eg blk off cap a m b sz d0 d w0 w hcmp R hs S hd (by omega) c2 h3 hsz T
      · have ih : ∀ a' m' b', b' - a' < b - a → a' < m' → m' < b' → b' ≤ sz → Merges r g cb blk off cap sz w0 a' m' b' := fun a' m' b' x y z t =>
          merges_all r g cb eg blk off cap sz d0 w0 hcmp R hs hsz l a' m' b' (by omega) y z t
        by_cases c3 : m ≤ (a + b) / 2
        · exact merge_mid r g cb eg blk off cap a m b ((a + b) / 2) ((a + b) / 2 + m - 1) a m sz d0 d w0 w hcmp R hs S hd (by omega) (by omega) h3 hsz T rfl
            ⟨by omega, by omega, by omega, by omega, by omega, by omega, by omega, by omega, by omega, Or.inl ⟨rfl, rfl, c3⟩⟩ ih
        · exact merge_mid r g cb eg blk off cap a m b ((a + b) / 2) ((a + b) / 2 + m - 1) ((a + b) / 2 + m - b) ((a + b) / 2) sz d0 d w0 w hcmp R hs S hd (by omega) (by omega) h3 hsz T rfl
            ⟨by omega, by omega, by omega, by omega, by omega, by omega, by omega, by omega, by omega, Or.inr ⟨by omega, rfl, by omega⟩⟩ ih

/-- Parts f i = c are sorted; what lies in an earlier part comes from ahead of what lies in a later one. -/
def Parts (r : Rests n) (f : Nat → Nat) (sz : Nat) (d : Array (Fin (n + 1))) : Prop :=
  ∀ i j, i < j → j < sz → (f i = f j → ltR r d[j]! d[i]! = false) ∧ (f i < f j → d[i]!.val < d[j]!.val)

/-- A part is made of [a, b). -/
structure Joins (f f' : Nat → Nat) (a b sz : Nat) : Prop where
  out : ∀ i j, i < j → j < sz → (i < a ∨ b ≤ i) → (j < a ∨ b ≤ j) → (f' i = f' j → f i = f j) ∧ (f' i < f' j → f i < f j)
  low : ∀ i j, i < a → a ≤ j → j < b → f' i ≠ f' j ∧ f i < f j
  high : ∀ i j, a ≤ i → i < b → b ≤ j → j < sz → f' i ≠ f' j ∧ f i < f j

theorem Parts.join {r : Rests n} {f f' : Nat → Nat} {a b sz : Nat} {d d' : Array (Fin (n + 1))} (h : Parts r f sz d) (J : Joins f f' a b sz) (mono : ∀ i j, a ≤ i → i < j → j < b → f' i = f' j) (hb : b ≤ sz) (hd : d.size = sz)
    (P : PermIn a b d d') (S : SortedIn (ltR r) a b d') : Parts r f' sz d' := by
  intro i j hij hj
  have o : ∀ k, k < a ∨ b ≤ k → d'[k]! = d[k]! := fun k hk => P.2.1 k hk
  by_cases hi1 : a ≤ i ∧ i < b
  · by_cases hj1 : a ≤ j ∧ j < b
    · have e := mono i j hi1.1 hij hj1.2
      exact ⟨fun _ => S i j hi1.1 hij hj1.2, fun x => by omega⟩
    · have hjb : b ≤ j := by omega
      have H := J.high i j hi1.1 hi1.2 hjb hj
      refine ⟨fun x => absurd x H.1, fun _ => ?_⟩
      rw [o j (Or.inr hjb)]
      refine permIn_all d d' a b (fun v => v.val < d[j]!.val) (by omega) P ?_ i hi1.1 hi1.2
      intro k hk1 hk2
      exact (h k j (by omega) hj).2 (J.high k j hk1 hk2 hjb hj).2
  · by_cases hj1 : a ≤ j ∧ j < b
    · have hia : i < a := by omega
      have H := J.low i j hia hj1.1 hj1.2
      refine ⟨fun x => absurd x H.1, fun _ => ?_⟩
      rw [o i (Or.inl hia)]
      refine permIn_all d d' a b (fun v => d[i]!.val < v.val) (by omega) P ?_ j hj1.1 hj1.2
      intro k hk1 hk2
      exact (h i k (by omega) (by omega)).2 (J.low i k hia hk1 hk2).2
    · rw [o i (by omega), o j (by omega)]
      have H := J.out i j hij hj (by omega) (by omega)
      exact ⟨fun x => (h i j hij hj).1 (H.1 x), fun x => (h i j hij hj).2 (H.2 x)⟩

theorem Parts.two {r : Rests n} {f : Nat → Nat} {a m b sz : Nat} {d : Array (Fin (n + 1))} (h : Parts r f sz d) (hb : b ≤ sz) (hm : m ≤ b) (h1 : ∀ i j, a ≤ i → i < j → j < m → f i = f j) (h2 : ∀ i j, m ≤ i → i < j → j < b → f i = f j)
    (h3 : ∀ i j, a ≤ i → i < m → m ≤ j → j < b → f i < f j) : Two (ltR r) (fun x => x.val) a m b d :=
  ⟨fun i j x y z => (h i j y (by omega)).1 (h1 i j x y z), fun i j x y z => (h i j y (by omega)).1 (h2 i j x y z), fun i j x y z t => (h i j (by omega) (by omega)).2 (h3 i j x y z t)⟩

/-- What is sorted one by one. -/
theorem Parts.asc {r : Rests n} {f : Nat → Nat} {a b sz : Nat} {d : Array (Fin (n + 1))} (h : Parts r f sz d) (hb : b ≤ sz) (h1 : ∀ i j, a ≤ i → i < j → j < b → f i < f j) : Asc (fun x => x.val) a b d :=
  fun i j x y z => (h i j y (by omega)).2 (h1 i j x y z)

theorem Parts.congr {r : Rests n} {f f' : Nat → Nat} {sz : Nat} {d : Array (Fin (n + 1))} (h : Parts r f sz d) (e : ∀ i, i < sz → f i = f' i) : Parts r f' sz d := by
  intro i j x y
  rw [← e i (by omega), ← e j y]
  exact h i j x y

/-- Insertion sort of one part. -/
def Inserts (r : Rests n) (g : Nat) (cb : Array Value) (blk off cap sz : Nat) (w0 : World) : Prop := ∀ (a b : Nat) (A B : Int) (d : Array (Fin (n + 1))) (w : World), A = (a : Int) → B = (b : Int) → a ≤ b → b ≤ sz → d.size = sz → Asc (fun x => x.val) a b d → SW en w0 blk off d w →
  Calls Tryz.prog 82 #[.slice (some ⟨blk, off, none⟩) sz cap, .int .i64 A, .int .i64 B, .func (.func g) #[] cb] w fun e w' =>
    e = .returned (.tuple #[]) ∧ ∃ d', PermIn a b d d' ∧ SortedIn (ltR r) a b d' ∧ SW en w0 blk off d' w'

theorem inserts_all (r : Rests n) (g : Nat) (cb : Array Value) (eg : ∀ args w, (callFunc g args).run Tryz.prog w = .ok (.enter g args) w) (blk off cap : Nat) (sz : Nat) (d0 : Array (Fin (n + 1))) (w0 : World)
    (hcmp : CmpLays1 Tryz.prog g cb en (cfR r) blk off sz w0) (R : Row1 en w0 blk off d0) (hs : d0.size = sz) (hsz : sz < 4611686018427387904) : Inserts r g cb blk off cap sz w0 := by
  intro a b A B d w hA hB hab hb hd hC S
  subst hA hB hd
  have h := insertion_holds (fitsR r) d a b hab hb hC
  refine (Tryz.insertionSortCmpFunc_s en (cfR r) g cb blk off cap a b d0 d w0 w eg (by rw [hs]; exact hcmp) R hs S hab hb hsz).mono ?_
  rintro e w' ⟨he, hw⟩
  exact ⟨he, _, h.1, h.2, hw⟩

/-- The parts while insertion goes on: below 20 * k they are whole. -/
def f1 (k i : Nat) : Nat := if i < 20 * k then 20 * (i / 20) else i
/-- The parts while those of length c are merged: below 2 * c * k they are merged. -/
def f20 (k i : Nat) : Nat := if i < 40 * k then 40 * (i / 40) else 20 * (i / 20)
def f40 (k i : Nat) : Nat := if i < 80 * k then 80 * (i / 80) else 40 * (i / 40)

theorem join1 (k sz : Nat) : Joins (f1 k) (f1 (k + 1)) (20 * k) (20 * k + 20) sz := by
  refine ⟨fun i j a b c d => ?_, fun i j a b c => ?_, fun i j a b c d => ?_⟩ <;> (unfold f1; (repeat' split) <;> omega)
theorem join1e (k sz : Nat) (h : 20 * k ≤ sz) (h2 : sz < 20 * k + 20) : Joins (f1 k) (fun i => 20 * (i / 20)) (20 * k) sz sz := by
  refine ⟨fun i j a b c d => ?_, fun i j a b c => ?_, fun i j a b c d => ?_⟩ <;> (unfold f1; (repeat' split) <;> omega)
theorem join20 (k sz : Nat) : Joins (f20 k) (f20 (k + 1)) (40 * k) (40 * k + 40) sz := by
  refine ⟨fun i j a b c d => ?_, fun i j a b c => ?_, fun i j a b c d => ?_⟩ <;> (unfold f20; (repeat' split) <;> omega)
theorem join20e (k sz : Nat) (h : 40 * k ≤ sz) (h2 : sz < 40 * k + 40) : Joins (f20 k) (fun i => 40 * (i / 40)) (40 * k) sz sz := by
  refine ⟨fun i j a b c d => ?_, fun i j a b c => ?_, fun i j a b c d => ?_⟩ <;> (unfold f20; (repeat' split) <;> omega)
theorem join40e (sz : Nat) (h : 40 < sz) (h2 : sz ≤ 64) : Joins (f40 0) (fun i => 80 * (i / 80)) 0 sz sz := by
  refine ⟨fun i j a b c d => ?_, fun i j a b c => ?_, fun i j a b c d => ?_⟩ <;> (unfold f40; (repeat' split) <;> omega)

/-- Where the merging stands: the parts have the length c. -/
def St (r : Rests n) (c sz : Nat) (d : Array (Fin (n + 1))) : Prop := (c = 20 ∧ Parts r (fun i => 20 * (i / 20)) sz d) ∨ (c = 40 ∧ Parts r (fun i => 40 * (i / 40)) sz d) ∨ (c = 80 ∧ Parts r (fun i => 80 * (i / 80)) sz d)

theorem St.sorted {r : Rests n} {c sz : Nat} {d : Array (Fin (n + 1))} (h : St r c sz d) (hc : sz ≤ c) : SortedIn (ltR r) 0 sz d := by
  intro i j _ y z
  rcases h with ⟨e, h⟩ | ⟨e, h⟩ | ⟨e, h⟩ <;> exact (h i j y z).1 (by dsimp only; omega)

/-- Where one round of merging stands. -/
def Pc (r : Rests n) (c k sz : Nat) (d : Array (Fin (n + 1))) : Prop := (c = 20 ∧ Parts r (f20 k) sz d) ∨ (c = 40 ∧ Parts r (f40 0) sz d)

theorem Pc.start {r : Rests n} {c sz : Nat} {d : Array (Fin (n + 1))} (h : St r c sz d) (hc : c < sz) (h64 : sz ≤ 64) : Pc r c 0 sz d := by
  rcases h with ⟨e, h⟩ | ⟨e, h⟩ | ⟨e, h⟩
  · exact Or.inl ⟨e, h.congr (fun i _ => by unfold f20; rw [if_neg (by omega)])⟩
  · exact Or.inr ⟨e, h.congr (fun i _ => by unfold f40; rw [if_neg (by omega)])⟩
  · omega

/-- The two bounds of the next two parts. -/
def Ab (c k a b : Nat) : Prop := (c = 20 ∧ a = 40 * k ∧ b = 40 * k + 40) ∨ (c = 40 ∧ k = 0 ∧ a = 0 ∧ b = 80)

theorem Pc.two {r : Rests n} {c k a b e sz : Nat} {d : Array (Fin (n + 1))} (h : Pc r c k sz d) (hA : Ab c k a b) (he : e ≤ sz) (he2 : e ≤ b) (hm : a + c ≤ e) : Two (ltR r) (fun x => x.val) a (a + c) e d := by
  rcases h with ⟨e1, h⟩ | ⟨e1, h⟩ <;> rcases hA with ⟨e2, e3, e4⟩ | ⟨e2, e3, e4, e5⟩
  · refine h.two he hm (fun i j x y z => ?_) (fun i j x y z => ?_) (fun i j x y z t => ?_) <;> (unfold f20; rw [if_neg (by omega), if_neg (by omega)]; omega)
  · omega
  · omega
  · refine h.two he hm (fun i j x y z => ?_) (fun i j x y z => ?_) (fun i j x y z t => ?_) <;> (unfold f40; rw [if_neg (by omega), if_neg (by omega)]; omega)

theorem Pc.next {r : Rests n} {c k a b sz : Nat} {d d' : Array (Fin (n + 1))} (h : Pc r c k sz d) (hA : Ab c k a b) (hb : b ≤ sz) (h64 : sz ≤ 64) (hd : d.size = sz) (P : PermIn a b d d') (S : SortedIn (ltR r) a b d') : Pc r c (k + 1) sz d' ∧ Ab c (k + 1) b (b + 40) ∧ c = 20 := by
  rcases hA with ⟨e2, e3, e4⟩ | ⟨e2, e3, e4, e5⟩
  · rcases h with ⟨e1, h⟩ | ⟨e1, h⟩
    · refine ⟨Or.inl ⟨e1, h.join (f' := f20 (k + 1)) (a := a) (b := b) (by rw [e3, e4]; exact join20 k sz) (fun i j x y z => by unfold f20; rw [if_pos (by omega), if_pos (by omega)]; omega) hb hd P S⟩, Or.inl ⟨e2, by omega, by omega⟩, e1⟩
    · omega
  · omega

theorem Pc.last {r : Rests n} {c k a b sz : Nat} {d d' : Array (Fin (n + 1))} (h : Pc r c k sz d) (hA : Ab c k a b) (ha : a + c < sz) (hb : sz < b) (h64 : sz ≤ 64) (hd : d.size = sz) (P : PermIn a sz d d') (S : SortedIn (ltR r) a sz d') : St r (2 * c) sz d' := by
  rcases h with ⟨e1, h⟩ | ⟨e1, h⟩ <;> rcases hA with ⟨e2, e3, e4⟩ | ⟨e2, e3, e4, e5⟩
  · exact Or.inr (Or.inl ⟨by omega, h.join (f' := fun i => 40 * (i / 40)) (a := a) (b := sz) (by rw [e3]; exact join20e k sz (by omega) (by omega)) (fun i j x y z => by first | omega | (dsimp only; omega)) (Nat.le_refl _) hd P S⟩)
  · omega
  · omega
  · exact Or.inr (Or.inr ⟨by omega, h.join (f' := fun i => 80 * (i / 80)) (a := a) (b := sz) (by rw [e4]; exact join40e sz (by omega) h64) (fun i j x y z => by first | omega | (dsimp only; omega)) (Nat.le_refl _) hd P S⟩)

theorem Pc.done {r : Rests n} {c k a b sz : Nat} {d : Array (Fin (n + 1))} (h : Pc r c k sz d) (hA : Ab c k a b) (ha : sz ≤ a + c) (ha2 : a ≤ sz) (hc : c < sz) (h64 : sz ≤ 64) : St r (2 * c) sz d := by
  rcases h with ⟨e1, h⟩ | ⟨e1, h⟩ <;> rcases hA with ⟨e2, e3, e4⟩ | ⟨e2, e3, e4, e5⟩
  · exact Or.inr (Or.inl ⟨by omega, h.congr (fun i hi => by unfold f20; split <;> omega)⟩)
  · omega
  · omega
  · omega

set_option maxHeartbeats 16000000 in
set_option maxRecDepth 1000000 in
theorem stable_any (r : Rests n) (g : Nat) (cb : Array Value) (eg : ∀ args w, (callFunc g args).run Tryz.prog w = .ok (.enter g args) w) (blk off cap : Nat) (sz : Nat) (d0 d : Array (Fin (n + 1))) (w0 w : World)
    (hcmp : CmpLays1 Tryz.prog g cb en (cfR r) blk off sz w0) (R : Row1 en w0 blk off d0) (hs : d0.size = sz) (S : SW en w0 blk off d w) (hd : d.size = sz) (h64 : sz ≤ 64) (hC : Parts r (fun i => i) sz d) :
    Calls Tryz.prog 66 #[.slice (some ⟨blk, off, none⟩) sz cap, .int .i64 sz, .func (.func g) #[] cb] w fun e w' =>
      e = .returned (.tuple #[]) ∧ ∃ d', PermIn 0 sz d d' ∧ SortedIn (ltR r) 0 sz d' ∧ SW en w0 blk off d' w' := by
  have S0 : Aside (SW en w0 blk off d w) := S
  have HD : Hid (d.size = sz) := hd
  have HI : Aside (Inserts r g cb blk off cap sz w0) := inserts_all r g cb eg blk off cap sz d0 w0 hcmp R hs (by omega)
  have HM : Aside (∀ (l a m b : Nat), b - a ≤ l → a < m → m < b → b ≤ sz → Merges r g cb blk off cap sz w0 a m b) := merges_all r g cb eg blk off cap sz d0 w0 hcmp R hs (by omega)
  have P0 : Aside (Parts r (f1 0) sz d) := hC.congr (fun i _ => by unfold f1; rw [if_neg (by omega)])
  clear S hd hcmp hC
  go_enter Tryz.func66, Tryz.ntmps66
  go_wp2
  go_loopg [7, 8] sz (fun kx va vb wr => ∃ (k a b : Nat) (dk : Array (Fin (n + 1))), va = .int .i64 a ∧ vb = .int .i64 b ∧ a ≤ sz ∧ b ≤ sz + 20 ∧ sz - a ≤ kx ∧ Hid (a = 20 * k ∧ b = 20 * k + 20) ∧ Aside (Parts r (f1 k) sz dk) ∧ Aside (PermIn 0 sz d dk) ∧ Aside (SW en w0 blk off dk wr))
  case atStart => exact ⟨0, 0, 20, d, rfl, rfl, by omega, by omega, by omega, ⟨rfl, rfl⟩, P0, permIn_refl d 0 sz, S0⟩
  case round =>
    clear S0 P0
    obtain ⟨k, a, b, dk, rfl, rfl, ha, hb, hk, HK, HP, HQ, S1⟩ := hrel
    by_cases hlt : b ≤ sz
    · have hltz : (b : Int) ≤ (sz : Int) := by omega
      have hc := HI.out a b a b dk wr rfl rfl (by have := HK.out; omega) hlt (by rw [HQ.out.1, HD.out]) (HP.out.asc hlt (fun i j x y z => by have := HK.out; unfold f1; rw [if_neg (by omega), if_neg (by omega)]; exact y)) S1.out
      have K := Lib.hid hc
      clear hc S1
      go_wp2_with fail
      refine K.out.mono ?_
      rintro e' w1 ⟨rfl, d1, hP, hS, hW⟩
      have P1 : Aside (Parts r (f1 (k + 1)) sz d1) := by
        have e := HK.out
        have q := HP.out.join (f' := f1 (k + 1)) (a := a) (b := b) (by rw [e.1, e.2]; exact join1 k sz) (fun i j x y z => by unfold f1; rw [if_pos (by omega), if_pos (by omega)]; omega) hlt (by rw [HQ.out.1, HD.out]) hP hS
        exact q
      have Q1 : Aside (PermIn 0 sz d d1) := permIn_trans _ _ _ 0 sz HQ.out (permIn_mono _ _ a b 0 sz (by omega) hlt (by rw [HQ.out.1, HD.out]; exact Nat.le_refl _) hP)
      have S2 : Aside (SW en w0 blk off d1 w1) := hW
      clear hP hS hW K
      go_wp2
      go_roundg (sz - b)
      case measure => have := HK.out; omega
      case rel => exact ⟨k + 1, b, b + 20, d1, rfl, by go_num, hlt, by omega, by omega, (show _ ∧ _ from by have := HK.out; omega), P1, Q1, S2⟩
    · have hltz : ¬ (b : Int) ≤ (sz : Int) := by omega
      have hc := HI.out a sz a sz dk wr rfl rfl ha (by omega) (by rw [HQ.out.1, HD.out]) (HP.out.asc (by omega) (fun i j x y z => by have := HK.out; unfold f1; rw [if_neg (by omega), if_neg (by omega)]; exact y)) S1.out
      have K := Lib.hid hc
      clear hc S1
      go_wp2_with fail
      refine K.out.mono ?_
      rintro e' w1 ⟨rfl, d1, hP, hS, hW⟩
      have P1 : Aside (St r 20 sz d1) := by
        have e := HK.out
        refine Or.inl ⟨rfl, ?_⟩
        have q := HP.out.join (f' := fun i => 20 * (i / 20)) (a := a) (b := sz) (by rw [e.1]; exact join1e k sz (by omega) (by omega)) (fun i j x y z => by show _ = _; omega) (by omega) (by rw [HQ.out.1, HD.out]) hP hS
        exact q
      have Q1 : Aside (PermIn 0 sz d d1) := permIn_trans _ _ _ 0 sz HQ.out (permIn_mono _ _ a sz 0 sz (by omega) (by omega) (by rw [HQ.out.1, HD.out]; exact Nat.le_refl _) hP)
      have S2 : Aside (SW en w0 blk off d1 w1) := hW
      clear hP hS hW K HP HQ HK hltz
      go_wp2
      go_loopg [6] 160 (fun kx vc wr => ∃ (c : Nat) (dk : Array (Fin (n + 1))), vc = .int .i64 c ∧ 20 ≤ c ∧ c ≤ 80 ∧ 160 - c ≤ kx ∧ Aside (St r c sz dk) ∧ Aside (PermIn 0 sz d dk) ∧ Aside (SW en w0 blk off dk wr))
      case atStart => exact ⟨20, d1, rfl, by omega, by omega, by omega, P1, Q1, S2⟩
      case round =>
        clear P1 Q1 S2
        obtain ⟨c, dk, rfl, hc1, hc2, hk2, HP, HQ, S1⟩ := hrel
        by_cases hlt2 : c < sz
        · have hltz2 : (c : Int) < (sz : Int) := by omega
          obtain ⟨c2, hc2e⟩ : ∃ q, q = 2 * c := ⟨_, rfl⟩
          have z2 : 2 * (c : Int) = (c2 : Int) := by omega
          have HC2 : Hid (c2 = 2 * c) := hc2e
          have hc2b : c2 ≤ 160 := by omega
          clear hc2e
          have A0 : Hid (Ab c 0 0 c2) := by
            have e := HC2.out
            rcases HP.out with ⟨x, _⟩ | ⟨x, _⟩ | ⟨x, _⟩
            · exact Or.inl ⟨x, by omega, by omega⟩
            · exact Or.inr ⟨x, rfl, rfl, by omega⟩
            · omega
          have P1 : Aside (Pc r c 0 sz dk) := Pc.start HP.out hlt2 h64
          clear HP
          go_wp2
          go_loopg [7, 8] sz (fun kx va vb wr => ∃ (k a b : Nat) (dj : Array (Fin (n + 1))), va = .int .i64 a ∧ vb = .int .i64 b ∧ a ≤ sz ∧ b ≤ 200 ∧ sz - a ≤ kx ∧ Hid (Ab c k a b) ∧ Aside (Pc r c k sz dj) ∧ Aside (PermIn 0 sz d dj) ∧ Aside (SW en w0 blk off dj wr))
          case atStart => exact ⟨0, 0, c2, dk, rfl, rfl, by omega, by omega, by omega, A0, P1, HQ, S1⟩
          case round =>
            clear A0 P1 HQ S1
            obtain ⟨k, a', b', dj, rfl, rfl, ha', hb', hk', HA, HP, HQ, S1⟩ := hrel
            by_cases hlt3 : b' ≤ sz
            · have hltz3 : (b' : Int) ≤ (sz : Int) := by omega
              have hab : a' + c < b' := by have h : Ab _ _ _ _ := HA.out; rcases h with h | h <;> omega
              have hc := HM.out b' a' (a' + c) b' (by omega) (by omega) hab hlt3 a' ((a' : Int) + (c : Int)) b' dj wr rfl (by omega) rfl (by rw [HQ.out.1, HD.out]) (HP.out.two HA.out hlt3 (Nat.le_refl _) (by omega)) S1.out
              have K := Lib.hid hc
              clear hc S1
              go_wp2_with fail
              refine K.out.mono ?_
              rintro e' w1 ⟨rfl, d2, hP, hS, hW⟩
              have N1 := HP.out.next HA.out hlt3 h64 (by rw [HQ.out.1, HD.out]) hP hS
              have A2 : Hid (Ab c (k + 1) b' (b' + 40)) := N1.2.1
              have P2 : Aside (Pc r c (k + 1) sz d2) := N1.1
              have Q2 : Aside (PermIn 0 sz d d2) := permIn_trans _ _ _ 0 sz HQ.out (permIn_mono _ _ a' b' 0 sz (by omega) hlt3 (by rw [HQ.out.1, HD.out]; exact Nat.le_refl _) hP)
              have S2 : Aside (SW en w0 blk off d2 w1) := hW
              have E20 : Hid (c = 20) := N1.2.2
              clear hP hS hW K N1
              go_wp2
              go_roundg (sz - b')
              case measure => omega
              case rel => exact ⟨k + 1, b', b' + 40, d2, rfl, by congr 1; have := E20.out; have := HC2.out; omega, hlt3, by omega, Nat.le_refl _, A2, P2, Q2, S2⟩
            · have hltz3 : ¬ (b' : Int) ≤ (sz : Int) := by omega
              by_cases hlt4 : a' + c < sz
              · have hltz4 : (a' : Int) + (c : Int) < (sz : Int) := by omega
                have hc := HM.out sz a' (a' + c) sz (by omega) (by omega) hlt4 (Nat.le_refl _) a' ((a' : Int) + (c : Int)) sz dj wr rfl (by omega) rfl (by rw [HQ.out.1, HD.out]) (HP.out.two HA.out (Nat.le_refl _) (by omega) (by omega)) S1.out
                have K := Lib.hid hc
                clear hc S1
                go_wp2_with fail
                refine K.out.mono ?_
                rintro e' w1 ⟨rfl, d2, hP, hS, hW⟩
                have P2 : Aside (St r (2 * c) sz d2) := HP.out.last HA.out hlt4 (by omega) h64 (by rw [HQ.out.1, HD.out]) hP hS
                have Q2 : Aside (PermIn 0 sz d d2) := permIn_trans _ _ _ 0 sz HQ.out (permIn_mono _ _ a' sz 0 sz (by omega) (Nat.le_refl _) (by rw [HQ.out.1, HD.out]; exact Nat.le_refl _) hP)
                have S2 : Aside (SW en w0 blk off d2 w1) := hW
                have B2 : 2 * c ≤ 80 := by have h : St _ _ _ _ := P2.out; rcases h with h | h | h <;> omega
                clear hP hS hW K
                go_wp2
                go_roundg (160 - 2 * c)
                case measure => omega
                case rel => exact ⟨2 * c, d2, by congr 1; omega, by omega, B2, Nat.le_refl _, P2, Q2, S2⟩
              · have hltz4 : ¬ (a' : Int) + (c : Int) < (sz : Int) := by omega
                have P2 : Aside (St r (2 * c) sz dj) := HP.out.done HA.out (by omega) ha' hlt2 h64
                have B2 : 2 * c ≤ 80 := by have h : St _ _ _ _ := P2.out; rcases h with h | h | h <;> omega
                go_wp2
                go_roundg (160 - 2 * c)
                case measure => omega
                case rel => exact ⟨2 * c, dj, by congr 1; omega, by omega, B2, Nat.le_refl _, P2, HQ, S1⟩
        · have hltz2 : ¬ (c : Int) < (sz : Int) := by omega
          go_wp2
          go_end0
          exact ⟨rfl, dk, HQ.out, HP.out.sorted (by omega), S1.out⟩

set_option maxHeartbeats 1000000 in
theorem sortStable_any (r : Rests n) (g : Nat) (cb : Array Value) (eg : ∀ args w, (callFunc g args).run Tryz.prog w = .ok (.enter g args) w) (blk off cap : Nat) (sz : Nat) (d0 d : Array (Fin (n + 1))) (w0 w : World)
    (hcmp : CmpLays1 Tryz.prog g cb en (cfR r) blk off sz w0) (R : Row1 en w0 blk off d0) (hs : d0.size = sz) (S : SW en w0 blk off d w) (hd : d.size = sz) (h64 : sz ≤ 64) (hC : Parts r (fun i => i) sz d) :
    Calls Tryz.prog 48 #[.slice (some ⟨blk, off, none⟩) sz cap, .func (.func g) #[] cb] w fun e w' =>
      e = .returned (.tuple #[]) ∧ ∃ d', PermIn 0 sz d d' ∧ SortedIn (ltR r) 0 sz d' ∧ SW en w0 blk off d' w' := by
  have h := stable_any r g cb eg blk off cap sz d0 d w0 w hcmp R hs S hd h64 hC
  have K := Lib.hid h
  clear h hcmp R S hC hd hs
  go_enter Tryz.func48, Tryz.ntmps48
  go_wp2_with fail
  refine K.out.mono ?_
  rintro e' w1 ⟨rfl, d1, hP, hS, hW⟩
  have P1 : Aside _ := hP
  have S1 : Aside _ := hS
  have W1 : Aside _ := hW
  clear hP hS hW K
  go_wp2
  go_end0
  exact ⟨rfl, d1, P1.out, S1.out, W1.out⟩
end Go.Proofs.YtamccmeibnihpaaGreatDoor
