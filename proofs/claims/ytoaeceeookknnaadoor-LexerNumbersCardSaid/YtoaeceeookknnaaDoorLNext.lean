/-
  The contract of the reference's Next.
-/
import Derived.Test.YtoaeceeookknnaaDoorLValue
namespace Go.Proofs.YtoaeceeookknnaaDoor
open Go.RowKit Lx

/-- The result's box is empty, and what lay lies as it lay. -/
def Bx (w0 w1 : World) : Prop := RowKit.Below w0.heap.size w0 w1 ∧ Box w1 w0.heap.size (.int .i64 0) (.int .i64 0) (.string ⟨#[]⟩) (.int .i64 0) (.int .i64 0)
theorem Bx.start (w : World) : Bx w (w.alloc zBox) := ⟨(Below.refl _ _).alloc (Nat.le_refl _) _, Box.new w _ _ _ _ _ _⟩
theorem Bx.bel {w0 w1 w2 : World} (h : Bx w0 w1) (k : RowKit.Below w1.heap.size w1 w2) : Bx w0 w2 :=
  ⟨h.1.trans (k.mono h.1.size), h.2.of (k.block _ (World.block_lt_of_cell? _ _ h.2.1.1))⟩
theorem prt_blk : (prt true = nmb) ∧ (prt false = wrd) := ⟨rfl, rfl⟩
theorem tw_in {p : UInt8 → Bool} {l : List UInt8} : (∀ k, k < (l.takeWhile p).length → p (l.getD k 0) = true) ∧ ((l.takeWhile p).length < l.length → p (l.getD (l.takeWhile p).length 0) = false) := by
  have hta : (l.take (l.takeWhile p).length).all p = true := by rw [tw_take]; exact tw_all l
  have hle : (l.takeWhile p).length ≤ l.length := tw_pre l
  refine ⟨fun i hi => ?_, fun h => ?_⟩
  · have hi2 : i < (l.take (l.takeWhile p).length).length := by rw [List.length_take]; omega
    have := List.all_eq_true.1 hta _ (List.getElem_mem hi2)
    rw [List.getElem_take] at this
    rw [getD_eq (by omega)]; exact this
  · cases hd : p (l.getD (l.takeWhile p).length 0) with
    | false => rfl
    | true =>
      exfalso
      have h1 := all_next h hta hd
      have q : ∀ (a b : List UInt8), a.all p = true → a <+: (a ++ b).takeWhile p := by
        intro a b ha
        induction a with
        | nil => exact List.nil_prefix
        | cons c a ih =>
          rw [List.all_cons, Bool.and_eq_true] at ha
          rw [List.cons_append, List.takeWhile_cons, ha.1, if_pos rfl]
          exact (List.cons_prefix_cons.2 ⟨rfl, ih ha.2⟩)
      have := q _ (l.drop ((l.takeWhile p).length + 1)) h1
      rw [List.take_append_drop] at this
      have hl := this.length_le
      rw [List.length_take] at hl
      omega
theorem ext_mid (s : ByteArray) (i n : Nat) {l : List UInt8} (hl : s.data.toList.drop i = l) : s.extract i (i + n) = bs (l.take n) := by
  subst hl
  apply ByteArray.ext; apply Array.ext'; simp [bs, List.take_drop]

set_option maxRecDepth 100000 in
set_option maxHeartbeats 2000000 in
theorem next_sign_er (s : ByteArray) (i : Nat) (w : World) (l : List UInt8) (hl : s.data.toList.drop i = l) (hi : i < s.size) (hs : s.size ≤ 8000) (h1 : dgt s[i] = false) (h2 : ltr s[i] = false) (k : Nat) (hk : sgn l = k) (h0 : k = 0) :
    Calls Tryd.prog 22 #[.string s, .int .i64 i] w fun e w' => e = .returned (.tuple #[.agg #[.int .i64 0, .int .i64 0, .string ⟨#[]⟩, .int .i64 0, .int .i64 0], .int .i64 0, .int .i64 10]) ∧ RowKit.Below w.heap.size w w' := by
  have hiz : (i : Int) < (s.size : Int) := by omega
  have hll : l.length = s.size - i := by rw [← hl, List.length_drop, len_bytes]
  have KD := Lib.hid (rDigit_any s[i])
  have KL := Lib.hid (rLetter_any s[i])
  have B1 := Lib.hid (Bx.start w)
  have KS : Hid (∀ w : World, Calls Tryd.prog 31 #[.string (s.extract i s.size)] w fun e w' => e = .returned (.int .i64 (k : Nat)) ∧ w' = w) := fun w => by
    obtain ⟨c, r, hcr, _⟩ := token_kind hi hl
    have := rSign_any (s.extract i s.size) c r w (by rw [Lib.extract_to_end, hl, hcr]) (by rw [row_sign hl, bs_size]; omega)
    rw [← hcr, hk] at this
    exact this
  rw [h1] at KD
  rw [h2] at KL
  subst h0
  clear h1 h2 hk hl hll
  go_enter Tryd.func22, Tryd.ntmps22
  go_wp2_with fail
  change Calls Tryd.prog 29 #[.int .u8 s[i].toNat] (w.alloc zBox) fun e w' => _
  generalize w.alloc zBox = w1 at *
  refine (KD.out _).mono ?_
  rintro _ _ ⟨rfl, rfl⟩
  have c := B1.out.2
  obtain ⟨⟨c0, c1, c2, c3, c4⟩, f0, f1, f2, f3, f4⟩ := c
  go_wp2_with (first | ((with_reducible refine (KL.out _).mono ?_); rintro _ _ ⟨rfl, rfl⟩) | (refine (KS.out _).mono ?_; rintro _ _ ⟨rfl, rfl⟩))
  exact bodyPost_ret (v := .tuple #[.agg #[.int .i64 0, .int .i64 0, .string ⟨#[]⟩, .int .i64 0, .int .i64 0], .int .i64 0, .int .i64 10]) (by simp [results, Tryd.results22, go_sem, c0, c1, c2, c3, c4]) rfl ⟨rfl, by repeat' (first | exact B1.out.1 | refine Below.setCell ?_ (by first | exact Nat.le_refl _ | (simp; done)) _)⟩

set_option maxRecDepth 100000 in
set_option maxHeartbeats 2000000 in
theorem next_sign_ok (s : ByteArray) (i : Nat) (w : World) (l : List UInt8) (hl : s.data.toList.drop i = l) (hi : i < s.size) (hs : s.size ≤ 8000) (h1 : dgt s[i] = false) (h2 : ltr s[i] = false) (k : Nat) (hk : sgn l = k) (h0 : 0 < k) :
    Calls Tryd.prog 22 #[.string s, .int .i64 i] w fun e w' => e = .returned (.tuple #[.agg #[.int .i64 3, .int .i64 i, .string (bs (l.take k)), .int .i64 0, .int .i64 0], .int .i64 (k : Nat), .int .i64 0]) ∧ RowKit.Below w.heap.size w w' := by
  have hiz : (i : Int) < (s.size : Int) := by omega
  have hll : l.length = s.size - i := by rw [← hl, List.length_drop, len_bytes]
  have KD := Lib.hid (rDigit_any s[i])
  have KL := Lib.hid (rLetter_any s[i])
  have B1 := Lib.hid (Bx.start w)
  have KS : Hid (∀ w : World, Calls Tryd.prog 31 #[.string (s.extract i s.size)] w fun e w' => e = .returned (.int .i64 (k : Nat)) ∧ w' = w) := fun w => by
    obtain ⟨c, r, hcr, _⟩ := token_kind hi hl
    have := rSign_any (s.extract i s.size) c r w (by rw [Lib.extract_to_end, hl, hcr]) (by rw [row_sign hl, bs_size]; omega)
    rw [← hcr, hk] at this
    exact this
  rw [h1] at KD
  rw [h2] at KL
  have hkl : k ≤ l.length := by rw [← hk]; exact sgn_le l
  have e1 := ext_mid s i k hl
  obtain ⟨T, hT⟩ : ∃ T, T = bs (l.take k) := ⟨_, rfl⟩
  rw [← hT] at e1 ⊢
  have hik : i + k ≤ s.size := by omega
  have hk0 : ((k : Int) == 0) = false := by simp; omega
  clear h1 h2 hk hl hll hkl hT
  go_enter Tryd.func22, Tryd.ntmps22
  go_wp2_with fail
  change Calls Tryd.prog 29 #[.int .u8 s[i].toNat] (w.alloc zBox) fun e w' => _
  generalize w.alloc zBox = w1 at *
  refine (KD.out _).mono ?_
  rintro _ _ ⟨rfl, rfl⟩
  have c := B1.out.2
  obtain ⟨⟨c0, c1, c2, c3, c4⟩, f0, f1, f2, f3, f4⟩ := c
  go_wp2_with (first | ((with_reducible refine (KL.out _).mono ?_); rintro _ _ ⟨rfl, rfl⟩) | (refine (KS.out _).mono ?_; rintro _ _ ⟨rfl, rfl⟩))
  exact bodyPost_ret (v := .tuple #[.agg #[.int .i64 3, .int .i64 i, .string T, .int .i64 0, .int .i64 0], .int .i64 (k : Nat), .int .i64 0]) (by simp [results, Tryd.results22, go_sem, c0, c1, c2, c3, c4]) rfl ⟨rfl, by repeat' (first | exact B1.out.1 | refine Below.setCell ?_ (by first | exact Nat.le_refl _ | (simp; done)) _)⟩

set_option maxRecDepth 100000 in
set_option maxHeartbeats 2000000 in
theorem next_word_er (s : ByteArray) (i : Nat) (w : World) (l : List UInt8) (hl : s.data.toList.drop i = l) (hi : i < s.size) (hs : s.size ≤ 8000) (h1 : dgt s[i] = false) (h2 : ltr s[i] = true) (x : List UInt8) (hx : l.takeWhile wrd = x) (h16 : 16 < x.length) :
    Calls Tryd.prog 22 #[.string s, .int .i64 i] w fun e w' => e = .returned (.tuple #[.agg #[.int .i64 0, .int .i64 0, .string ⟨#[]⟩, .int .i64 0, .int .i64 0], .int .i64 0, .int .i64 2]) ∧ RowKit.Below w.heap.size w w' := by
  have hiz : (i : Int) < (s.size : Int) := by omega
  have hll : l.length = s.size - i := by rw [← hl, List.length_drop, len_bytes]
  have KD := Lib.hid (rDigit_any s[i])
  have KL := Lib.hid (rLetter_any s[i])
  have B1 := Lib.hid (Bx.start w)
  rw [h1] at KD
  rw [h2] at KL
  have hget : Hid (∀ k (h : i + k < s.size), s[i + k] = l.getD k 0) := fun k h => by
    rw [get_list s (i + k) h, ← hl, List.getD_eq_getElem?_getD, List.getD_eq_getElem?_getD, List.getElem?_drop]
  obtain ⟨i1, i2⟩ := tw_in (p := wrd) (l := l)
  have hmle : (l.takeWhile wrd).length ≤ l.length := tw_pre l
  have htk : l.take (l.takeWhile wrd).length = l.takeWhile wrd := tw_take l
  rw [hx] at i1 i2 hmle htk
  have e1 := ext_mid s i x.length hl
  rw [htk] at e1
  have I1 := Lib.hid i1
  have I2 := Lib.hid i2
  obtain ⟨m, hm⟩ : ∃ m, m = x.length := ⟨_, rfl⟩
  rw [← hm] at I1 I2 hmle e1
  have him : i + m ≤ s.size := by omega
  have HLL := Lib.hid hll
  have HM := Lib.hid hm
  have d16 : decide ((16 : Int) < (m : Int)) = true := decide_eq_true (by omega)
  clear h1 h2 hl hll hm hx i1 i2 htk
  go_enter Tryd.func22, Tryd.ntmps22
  go_wp2_with fail
  change Calls Tryd.prog 29 #[.int .u8 s[i].toNat] (w.alloc zBox) fun e w' => _
  generalize w.alloc zBox = w1 at *
  refine (KD.out _).mono ?_
  rintro _ _ ⟨rfl, rfl⟩
  have c := B1.out.2
  obtain ⟨⟨c0, c1, c2, c3, c4⟩, f0, f1, f2, f3, f4⟩ := c
  go_wp2_with ((with_reducible refine (KL.out _).mono ?_); rintro _ _ ⟨rfl, rfl⟩)
  rename World => w1
  go_loopg [9] m (fun g s9 wr => ∃ k : Nat, s9 = .int .i64 k ∧ k ≤ m ∧ m - k ≤ g ∧ wr = w1)
  case atStart => exact ⟨0, rfl, by omega, by omega, rfl⟩
  case round =>
    obtain ⟨k, rfl, hk, hkg, rfl⟩ := hrel
    by_cases hlt : k < m
    · have hks : i + k < s.size := by omega
      have hltz : (i : Int) + (k : Int) < (s.size : Int) := by omega
      have KP : Hid (∀ w : World, Calls Tryd.prog 32 #[.int .u8 s[i + k].toNat, .bool false] w fun e w' => e = .returned (.bool true) ∧ w' = w) := fun w => by
        have := rPart_any s[i + k] false w
        rw [show prt false s[i + k] = true by rw [hget.out k hks]; exact I1.out k hlt] at this
        exact this
      go_wp2_with (refine (KP.out _).mono ?_; rintro _ _ ⟨rfl, rfl⟩)
      go_roundg (m - (k + 1))
      case measure => omega
      case rel => exact ⟨k + 1, by go_num, by omega, by omega, rfl⟩
    · obtain rfl : k = m := by omega
      clear hk hkg
      by_cases hks : i + k < s.size
      · have hltz : (i : Int) + (k : Int) < (s.size : Int) := by omega
        have KP : Hid (∀ w : World, Calls Tryd.prog 32 #[.int .u8 s[i + k].toNat, .bool false] w fun e w' => e = .returned (.bool false) ∧ w' = w) := fun w => by
          have := rPart_any s[i + k] false w
          rw [show prt false s[i + k] = false by rw [hget.out k hks]; exact I2.out (by rw [HLL.out]; omega)] at this
          exact this
        go_wp2_with (refine (KP.out _).mono ?_; rintro _ _ ⟨rfl, rfl⟩)
        exact bodyPost_ret (v := .tuple #[.agg #[.int .i64 0, .int .i64 0, .string ⟨#[]⟩, .int .i64 0, .int .i64 0], .int .i64 0, .int .i64 2]) (by simp [results, Tryd.results22, go_sem, c0, c1, c2, c3, c4]) rfl ⟨rfl, by repeat' (first | exact B1.out.1 | refine Below.setCell ?_ (by first | exact Nat.le_refl _ | (simp; done)) _)⟩
      · have hltz : ¬ (i : Int) + (k : Int) < (s.size : Int) := by omega
        go_wp2_with fail
        exact bodyPost_ret (v := .tuple #[.agg #[.int .i64 0, .int .i64 0, .string ⟨#[]⟩, .int .i64 0, .int .i64 0], .int .i64 0, .int .i64 2]) (by simp [results, Tryd.results22, go_sem, c0, c1, c2, c3, c4]) rfl ⟨rfl, by repeat' (first | exact B1.out.1 | refine Below.setCell ?_ (by first | exact Nat.le_refl _ | (simp; done)) _)⟩

set_option maxRecDepth 100000 in
set_option maxHeartbeats 2000000 in
theorem next_word_ok (s : ByteArray) (i : Nat) (w : World) (l : List UInt8) (hl : s.data.toList.drop i = l) (hi : i < s.size) (hs : s.size ≤ 8000) (h1 : dgt s[i] = false) (h2 : ltr s[i] = true) (x : List UInt8) (hx : l.takeWhile wrd = x) (h16 : x.length ≤ 16) :
    Calls Tryd.prog 22 #[.string s, .int .i64 i] w fun e w' => e = .returned (.tuple #[.agg #[.int .i64 1, .int .i64 i, .string (bs x), .int .i64 0, .int .i64 0], .int .i64 (x.length : Nat), .int .i64 0]) ∧ RowKit.Below w.heap.size w w' := by
  have hiz : (i : Int) < (s.size : Int) := by omega
  have hll : l.length = s.size - i := by rw [← hl, List.length_drop, len_bytes]
  have KD := Lib.hid (rDigit_any s[i])
  have KL := Lib.hid (rLetter_any s[i])
  have B1 := Lib.hid (Bx.start w)
  rw [h1] at KD
  rw [h2] at KL
  have hget : Hid (∀ k (h : i + k < s.size), s[i + k] = l.getD k 0) := fun k h => by
    rw [get_list s (i + k) h, ← hl, List.getD_eq_getElem?_getD, List.getD_eq_getElem?_getD, List.getElem?_drop]
  obtain ⟨i1, i2⟩ := tw_in (p := wrd) (l := l)
  have hmle : (l.takeWhile wrd).length ≤ l.length := tw_pre l
  have htk : l.take (l.takeWhile wrd).length = l.takeWhile wrd := tw_take l
  rw [hx] at i1 i2 hmle htk
  have e1 := ext_mid s i x.length hl
  rw [htk] at e1
  have I1 := Lib.hid i1
  have I2 := Lib.hid i2
  obtain ⟨m, hm⟩ : ∃ m, m = x.length := ⟨_, rfl⟩
  rw [← hm] at I1 I2 hmle e1
  have him : i + m ≤ s.size := by omega
  have HLL := Lib.hid hll
  have HM := Lib.hid hm
  have d16 : decide ((16 : Int) < (m : Int)) = false := decide_eq_false (by omega)
  rw [← hm]
  clear h1 h2 hl hll hm hx i1 i2 htk
  go_enter Tryd.func22, Tryd.ntmps22
  go_wp2_with fail
  change Calls Tryd.prog 29 #[.int .u8 s[i].toNat] (w.alloc zBox) fun e w' => _
  generalize w.alloc zBox = w1 at *
  refine (KD.out _).mono ?_
  rintro _ _ ⟨rfl, rfl⟩
  have c := B1.out.2
  obtain ⟨⟨c0, c1, c2, c3, c4⟩, f0, f1, f2, f3, f4⟩ := c
  go_wp2_with ((with_reducible refine (KL.out _).mono ?_); rintro _ _ ⟨rfl, rfl⟩)
  rename World => w1
  go_loopg [9] m (fun g s9 wr => ∃ k : Nat, s9 = .int .i64 k ∧ k ≤ m ∧ m - k ≤ g ∧ wr = w1)
  case atStart => exact ⟨0, rfl, by omega, by omega, rfl⟩
  case round =>
    obtain ⟨k, rfl, hk, hkg, rfl⟩ := hrel
    by_cases hlt : k < m
    · have hks : i + k < s.size := by omega
      have hltz : (i : Int) + (k : Int) < (s.size : Int) := by omega
      have KP : Hid (∀ w : World, Calls Tryd.prog 32 #[.int .u8 s[i + k].toNat, .bool false] w fun e w' => e = .returned (.bool true) ∧ w' = w) := fun w => by
        have := rPart_any s[i + k] false w
        rw [show prt false s[i + k] = true by rw [hget.out k hks]; exact I1.out k hlt] at this
        exact this
      go_wp2_with (refine (KP.out _).mono ?_; rintro _ _ ⟨rfl, rfl⟩)
      go_roundg (m - (k + 1))
      case measure => omega
      case rel => exact ⟨k + 1, by go_num, by omega, by omega, rfl⟩
    · obtain rfl : k = m := by omega
      clear hk hkg
      by_cases hks : i + k < s.size
      · have hltz : (i : Int) + (k : Int) < (s.size : Int) := by omega
        have KP : Hid (∀ w : World, Calls Tryd.prog 32 #[.int .u8 s[i + k].toNat, .bool false] w fun e w' => e = .returned (.bool false) ∧ w' = w) := fun w => by
          have := rPart_any s[i + k] false w
          rw [show prt false s[i + k] = false by rw [hget.out k hks]; exact I2.out (by rw [HLL.out]; omega)] at this
          exact this
        go_wp2_with (refine (KP.out _).mono ?_; rintro _ _ ⟨rfl, rfl⟩)
        exact bodyPost_ret (v := .tuple #[.agg #[.int .i64 1, .int .i64 i, .string (bs x), .int .i64 0, .int .i64 0], .int .i64 (k : Nat), .int .i64 0]) (by simp [results, Tryd.results22, go_sem, c0, c1, c2, c3, c4]) rfl ⟨rfl, by repeat' (first | exact B1.out.1 | refine Below.setCell ?_ (by first | exact Nat.le_refl _ | (simp; done)) _)⟩
      · have hltz : ¬ (i : Int) + (k : Int) < (s.size : Int) := by omega
        go_wp2_with fail
        exact bodyPost_ret (v := .tuple #[.agg #[.int .i64 1, .int .i64 i, .string (bs x), .int .i64 0, .int .i64 0], .int .i64 (k : Nat), .int .i64 0]) (by simp [results, Tryd.results22, go_sem, c0, c1, c2, c3, c4]) rfl ⟨rfl, by repeat' (first | exact B1.out.1 | refine Below.setCell ?_ (by first | exact Nat.le_refl _ | (simp; done)) _)⟩

set_option maxRecDepth 100000 in
set_option maxHeartbeats 2000000 in
theorem next_num_ok (s : ByteArray) (i : Nat) (w : World) (l : List UInt8) (hl : s.data.toList.drop i = l) (hi : i < s.size) (hs : s.size ≤ 8000) (h1 : dgt s[i] = true) (x : List UInt8) (hx : l.takeWhile nmb = x) (a b : Int) (hv : valR x = (a, b, 0)) :
    Calls Tryd.prog 22 #[.string s, .int .i64 i] w fun e w' => e = .returned (.tuple #[.agg #[.int .i64 2, .int .i64 i, .string ⟨#[]⟩, .int .i64 a, .int .i64 b], .int .i64 (x.length : Nat), .int .i64 0]) ∧ RowKit.Below w.heap.size w w' := by
  have hiz : (i : Int) < (s.size : Int) := by omega
  have hll : l.length = s.size - i := by rw [← hl, List.length_drop, len_bytes]
  have KD := Lib.hid (rDigit_any s[i])
  have KL := Lib.hid (rLetter_any s[i])
  have B1 := Lib.hid (Bx.start w)
  rw [h1] at KD
  have hget : Hid (∀ k (h : i + k < s.size), s[i + k] = l.getD k 0) := fun k h => by
    rw [get_list s (i + k) h, ← hl, List.getD_eq_getElem?_getD, List.getD_eq_getElem?_getD, List.getElem?_drop]
  obtain ⟨i1, i2⟩ := tw_in (p := nmb) (l := l)
  have hmle : (l.takeWhile nmb).length ≤ l.length := tw_pre l
  have htk : l.take (l.takeWhile nmb).length = l.takeWhile nmb := tw_take l
  rw [hx] at i1 i2 hmle htk
  have e1 := ext_mid s i x.length hl
  rw [htk] at e1
  have I1 := Lib.hid i1
  have I2 := Lib.hid i2
  obtain ⟨m, hm⟩ : ∃ m, m = x.length := ⟨_, rfl⟩
  rw [← hm] at I1 I2 hmle e1
  have him : i + m ≤ s.size := by omega
  have HLL := Lib.hid hll
  have HM := Lib.hid hm
  have KV : Hid (∀ w : World, Calls Tryd.prog 33 #[.string (bs x)] w fun e w' => e = .returned (.tuple #[.agg #[.int .i64 (valR x).1, .int .i64 (valR x).2.1], .int .i64 (valR x).2.2]) ∧ RowKit.Below w.heap.size w w') := fun w => value_any (bs x) x w (bs_data x) (by rw [bs_size]; omega)
  rw [hv] at KV
  rw [← hm]
  clear h1 hl hll hm hx i1 i2 htk
  clear KL hv
  go_enter Tryd.func22, Tryd.ntmps22
  go_wp2_with fail
  change Calls Tryd.prog 29 #[.int .u8 s[i].toNat] (w.alloc zBox) fun e w' => _
  generalize w.alloc zBox = w1 at *
  refine (KD.out _).mono ?_
  rintro _ _ ⟨rfl, rfl⟩
  go_wp2_with fail
  rename World => w1
  go_loopg [9] m (fun g s9 wr => ∃ k : Nat, s9 = .int .i64 k ∧ k ≤ m ∧ m - k ≤ g ∧ wr = w1)
  case atStart => exact ⟨0, rfl, by omega, by omega, rfl⟩
  case round =>
    obtain ⟨k, rfl, hk, hkg, rfl⟩ := hrel
    by_cases hlt : k < m
    · have hks : i + k < s.size := by omega
      have hltz : (i : Int) + (k : Int) < (s.size : Int) := by omega
      have KP : Hid (∀ w : World, Calls Tryd.prog 32 #[.int .u8 s[i + k].toNat, .bool true] w fun e w' => e = .returned (.bool true) ∧ w' = w) := fun w => by
        have := rPart_any s[i + k] true w
        rw [show prt true s[i + k] = true by rw [hget.out k hks]; exact I1.out k hlt] at this
        exact this
      go_wp2_with (refine (KP.out _).mono ?_; rintro _ _ ⟨rfl, rfl⟩)
      go_roundg (m - (k + 1))
      case measure => omega
      case rel => exact ⟨k + 1, by go_num, by omega, by omega, rfl⟩
    · obtain rfl : k = m := by omega
      clear hk hkg
      by_cases hks : i + k < s.size
      · have hltz : (i : Int) + (k : Int) < (s.size : Int) := by omega
        have KP : Hid (∀ w : World, Calls Tryd.prog 32 #[.int .u8 s[i + k].toNat, .bool true] w fun e w' => e = .returned (.bool false) ∧ w' = w) := fun w => by
          have := rPart_any s[i + k] true w
          rw [show prt true s[i + k] = false by rw [hget.out k hks]; exact I2.out (by rw [HLL.out]; omega)] at this
          exact this
        go_wp2_with (refine (KP.out _).mono ?_; rintro _ _ ⟨rfl, rfl⟩)
        refine (KV.out _).mono ?_
        rintro _ w5 ⟨rfl, h5⟩
        have B5 := Lib.hid (B1.out.bel h5)
        clear h5
        have c := B5.out.2
        obtain ⟨⟨c0, c1, c2, c3, c4⟩, f0, f1, f2, f3, f4⟩ := c
        have L : w.heap.size < w5.heap.size := World.block_lt_of_cell? _ _ c0
        have BB : RowKit.Below w.heap.size w w5 := B5.out.1
        have hz := BB.size
        go_wp2_with fail
        exact bodyPost_ret (v := .tuple #[.agg #[.int .i64 2, .int .i64 i, .string ⟨#[]⟩, .int .i64 a, .int .i64 b], .int .i64 (k : Nat), .int .i64 0]) (by simp [results, Tryd.results22, go_sem, c0, c1, c2, c3, c4, cell_past, L]) rfl ⟨rfl, (by repeat' (first | (with_reducible exact BB) | (with_reducible refine Below.setCell ?_ ?_ _) | (with_reducible refine Below.alloc ?_ ?_ _) | (with_reducible refine Below.drew ?_) | (with_reducible refine below_drewN ?_ _) | (with_reducible exact Below.refl _ _) | omega | (simp; done) | (simp; omega)))⟩
      · have hltz : ¬ (i : Int) + (k : Int) < (s.size : Int) := by omega
        go_wp2_with fail
        refine (KV.out _).mono ?_
        rintro _ w5 ⟨rfl, h5⟩
        have B5 := Lib.hid (B1.out.bel h5)
        clear h5
        have c := B5.out.2
        obtain ⟨⟨c0, c1, c2, c3, c4⟩, f0, f1, f2, f3, f4⟩ := c
        have L : w.heap.size < w5.heap.size := World.block_lt_of_cell? _ _ c0
        have BB : RowKit.Below w.heap.size w w5 := B5.out.1
        have hz := BB.size
        go_wp2_with fail
        exact bodyPost_ret (v := .tuple #[.agg #[.int .i64 2, .int .i64 i, .string ⟨#[]⟩, .int .i64 a, .int .i64 b], .int .i64 (k : Nat), .int .i64 0]) (by simp [results, Tryd.results22, go_sem, c0, c1, c2, c3, c4, cell_past, L]) rfl ⟨rfl, (by repeat' (first | (with_reducible exact BB) | (with_reducible refine Below.setCell ?_ ?_ _) | (with_reducible refine Below.alloc ?_ ?_ _) | (with_reducible refine Below.drew ?_) | (with_reducible refine below_drewN ?_ _) | (with_reducible exact Below.refl _ _) | omega | (simp; done) | (simp; omega)))⟩

set_option maxRecDepth 100000 in
set_option maxHeartbeats 2000000 in
theorem next_num_er (s : ByteArray) (i : Nat) (w : World) (l : List UInt8) (hl : s.data.toList.drop i = l) (hi : i < s.size) (hs : s.size ≤ 8000) (h1 : dgt s[i] = true) (x : List UInt8) (hx : l.takeWhile nmb = x) (a b E : Int) (hv : valR x = (a, b, E)) (hE : E ≠ 0) :
    Calls Tryd.prog 22 #[.string s, .int .i64 i] w fun e w' => e = .returned (.tuple #[.agg #[.int .i64 0, .int .i64 0, .string ⟨#[]⟩, .int .i64 0, .int .i64 0], .int .i64 0, .int .i64 E]) ∧ RowKit.Below w.heap.size w w' := by
  have hiz : (i : Int) < (s.size : Int) := by omega
  have hll : l.length = s.size - i := by rw [← hl, List.length_drop, len_bytes]
  have KD := Lib.hid (rDigit_any s[i])
  have KL := Lib.hid (rLetter_any s[i])
  have B1 := Lib.hid (Bx.start w)
  rw [h1] at KD
  have hget : Hid (∀ k (h : i + k < s.size), s[i + k] = l.getD k 0) := fun k h => by
    rw [get_list s (i + k) h, ← hl, List.getD_eq_getElem?_getD, List.getD_eq_getElem?_getD, List.getElem?_drop]
  obtain ⟨i1, i2⟩ := tw_in (p := nmb) (l := l)
  have hmle : (l.takeWhile nmb).length ≤ l.length := tw_pre l
  have htk : l.take (l.takeWhile nmb).length = l.takeWhile nmb := tw_take l
  rw [hx] at i1 i2 hmle htk
  have e1 := ext_mid s i x.length hl
  rw [htk] at e1
  have I1 := Lib.hid i1
  have I2 := Lib.hid i2
  obtain ⟨m, hm⟩ : ∃ m, m = x.length := ⟨_, rfl⟩
  rw [← hm] at I1 I2 hmle e1
  have him : i + m ≤ s.size := by omega
  have HLL := Lib.hid hll
  have HM := Lib.hid hm
  have KV : Hid (∀ w : World, Calls Tryd.prog 33 #[.string (bs x)] w fun e w' => e = .returned (.tuple #[.agg #[.int .i64 (valR x).1, .int .i64 (valR x).2.1], .int .i64 (valR x).2.2]) ∧ RowKit.Below w.heap.size w w') := fun w => value_any (bs x) x w (bs_data x) (by rw [bs_size]; omega)
  rw [hv] at KV
  have hE1 : (E == 0) = false := by simpa using hE
  have hE2 : (E != 0) = true := by simpa using hE
  clear h1 hl hll hm hx i1 i2 htk
  clear KL hv hE
  go_enter Tryd.func22, Tryd.ntmps22
  go_wp2_with fail
  change Calls Tryd.prog 29 #[.int .u8 s[i].toNat] (w.alloc zBox) fun e w' => _
  generalize w.alloc zBox = w1 at *
  refine (KD.out _).mono ?_
  rintro _ _ ⟨rfl, rfl⟩
  go_wp2_with fail
  rename World => w1
  go_loopg [9] m (fun g s9 wr => ∃ k : Nat, s9 = .int .i64 k ∧ k ≤ m ∧ m - k ≤ g ∧ wr = w1)
  case atStart => exact ⟨0, rfl, by omega, by omega, rfl⟩
  case round =>
    obtain ⟨k, rfl, hk, hkg, rfl⟩ := hrel
    by_cases hlt : k < m
    · have hks : i + k < s.size := by omega
      have hltz : (i : Int) + (k : Int) < (s.size : Int) := by omega
      have KP : Hid (∀ w : World, Calls Tryd.prog 32 #[.int .u8 s[i + k].toNat, .bool true] w fun e w' => e = .returned (.bool true) ∧ w' = w) := fun w => by
        have := rPart_any s[i + k] true w
        rw [show prt true s[i + k] = true by rw [hget.out k hks]; exact I1.out k hlt] at this
        exact this
      go_wp2_with (refine (KP.out _).mono ?_; rintro _ _ ⟨rfl, rfl⟩)
      go_roundg (m - (k + 1))
      case measure => omega
      case rel => exact ⟨k + 1, by go_num, by omega, by omega, rfl⟩
    · obtain rfl : k = m := by omega
      clear hk hkg
      by_cases hks : i + k < s.size
      · have hltz : (i : Int) + (k : Int) < (s.size : Int) := by omega
        have KP : Hid (∀ w : World, Calls Tryd.prog 32 #[.int .u8 s[i + k].toNat, .bool true] w fun e w' => e = .returned (.bool false) ∧ w' = w) := fun w => by
          have := rPart_any s[i + k] true w
          rw [show prt true s[i + k] = false by rw [hget.out k hks]; exact I2.out (by rw [HLL.out]; omega)] at this
          exact this
        go_wp2_with (refine (KP.out _).mono ?_; rintro _ _ ⟨rfl, rfl⟩)
        refine (KV.out _).mono ?_
        rintro _ w5 ⟨rfl, h5⟩
        have B5 := Lib.hid (B1.out.bel h5)
        clear h5
        have c := B5.out.2
        obtain ⟨⟨c0, c1, c2, c3, c4⟩, f0, f1, f2, f3, f4⟩ := c
        have L : w.heap.size < w5.heap.size := World.block_lt_of_cell? _ _ c0
        have BB : RowKit.Below w.heap.size w w5 := B5.out.1
        have hz := BB.size
        go_wp2_with fail
        exact bodyPost_ret (v := .tuple #[.agg #[.int .i64 0, .int .i64 0, .string ⟨#[]⟩, .int .i64 0, .int .i64 0], .int .i64 0, .int .i64 E]) (by simp [results, Tryd.results22, go_sem, c0, c1, c2, c3, c4, cell_past, L]) rfl ⟨rfl, (by repeat' (first | (with_reducible exact BB) | (with_reducible refine Below.setCell ?_ ?_ _) | (with_reducible refine Below.alloc ?_ ?_ _) | (with_reducible refine Below.drew ?_) | (with_reducible refine below_drewN ?_ _) | (with_reducible exact Below.refl _ _) | omega | (simp; done) | (simp; omega)))⟩
      · have hltz : ¬ (i : Int) + (k : Int) < (s.size : Int) := by omega
        go_wp2_with fail
        refine (KV.out _).mono ?_
        rintro _ w5 ⟨rfl, h5⟩
        have B5 := Lib.hid (B1.out.bel h5)
        clear h5
        have c := B5.out.2
        obtain ⟨⟨c0, c1, c2, c3, c4⟩, f0, f1, f2, f3, f4⟩ := c
        have L : w.heap.size < w5.heap.size := World.block_lt_of_cell? _ _ c0
        have BB : RowKit.Below w.heap.size w w5 := B5.out.1
        have hz := BB.size
        go_wp2_with fail
        exact bodyPost_ret (v := .tuple #[.agg #[.int .i64 0, .int .i64 0, .string ⟨#[]⟩, .int .i64 0, .int .i64 0], .int .i64 0, .int .i64 E]) (by simp [results, Tryd.results22, go_sem, c0, c1, c2, c3, c4, cell_past, L]) rfl ⟨rfl, (by repeat' (first | (with_reducible exact BB) | (with_reducible refine Below.setCell ?_ ?_ _) | (with_reducible refine Below.alloc ?_ ?_ _) | (with_reducible refine Below.drew ?_) | (with_reducible refine below_drewN ?_ _) | (with_reducible exact Below.refl _ _) | omega | (simp; done) | (simp; omega)))⟩
end Go.Proofs.YtoaeceeookknnaaDoor
