/-
  Contracts of strings.Cut at a point, of Atoi at digits, and what Parse gives.
-/
import Derived.Test.YtamccmeibnihpaaGreatDoorMParse1
namespace Go.Proofs.YtamccmeibnihpaaGreatDoor
open Go.RowKit

theorem ext_take (s : ByteArray) (i : Nat) : s.extract 0 i = bs (s.data.toList.take i) := by
  apply ByteArray.ext
  apply Array.ext'
  simp [bs]
theorem ext_drop (s : ByteArray) (i : Nat) : s.extract i s.size = bs (s.data.toList.drop i) := by
  apply ByteArray.ext
  apply Array.ext'
  rw [Lib.extract_to_end]
  simp [bs]

set_option maxRecDepth 100000 in
set_option maxHeartbeats 400000 in
theorem cut_some0 (s : ByteArray) (i : Nat) (w : World) (hs : s.size ≤ 9223372036854775806) (h : Lib.indexByte s.data.toList 46 = i) (hi : i < s.size) :
    Calls Tryz.prog 41 #[.string s, .string ⟨#[46]⟩] w fun e w' =>
      e = .returned (.tuple #[.string (bs (s.data.toList.take i)), .string (bs (s.data.toList.drop (i + 1))), .bool true]) ∧ Below w.heap.size w w' := by
  have H := Lib.hid h
  clear h
  go_enter Tryz.func41, Tryz.ntmps41
  go_wp2_with fail
  refine (Tryz.stringslite_Index_one _ _ _).mono ?_
  rintro e w' ⟨rfl, rfl⟩
  rw [H.out]
  go_wp2
  go_quiet (fail)
  go_wp2
  go_ret3
  refine ⟨?_, below_drewN (Below.refl _ _) _⟩
  rw [← ext_take, ← ext_drop]; rfl

set_option maxRecDepth 100000 in
set_option maxHeartbeats 400000 in
theorem cut_none0 (s : ByteArray) (w : World) (h : Lib.indexByte s.data.toList 46 = -1) :
    Calls Tryz.prog 41 #[.string s, .string ⟨#[46]⟩] w fun e w' =>
      e = .returned (.tuple #[.string s, .string ⟨#[]⟩, .bool false]) ∧ Below w.heap.size w w' := by
  have H := Lib.hid h
  clear h
  go_enter Tryz.func41, Tryz.ntmps41
  go_wp2_with fail
  refine (Tryz.stringslite_Index_one _ _ _).mono ?_
  rintro e w' ⟨rfl, rfl⟩
  rw [H.out]
  go_wp2
  go_ret3
  exact ⟨rfl, Below.refl _ _⟩

/-- Cut at the first point. -/
def cutP (l : List UInt8) : List UInt8 × List UInt8 × Bool :=
  if 0 ≤ Lib.indexByte l 46 then (l.take (Lib.indexByte l 46).toNat, l.drop ((Lib.indexByte l 46).toNat + 1), true) else (l, [], false)

set_option maxRecDepth 100000 in
set_option maxHeartbeats 400000 in
theorem cut_any (s : ByteArray) (w : World) (hs : s.size ≤ 9223372036854775806) :
    Calls Tryz.prog 30 #[.string s, .string ⟨#[46]⟩] w fun e w' =>
      e = .returned (.tuple #[.string (bs (cutP s.data.toList).1), .string (bs (cutP s.data.toList).2.1), .bool (cutP s.data.toList).2.2]) ∧ Below w.heap.size w w' := by
  have hF : ∀ w, Calls Tryz.prog 41 #[.string s, .string ⟨#[46]⟩] w fun e w' =>
      e = .returned (.tuple #[.string (bs (cutP s.data.toList).1), .string (bs (cutP s.data.toList).2.1), .bool (cutP s.data.toList).2.2]) ∧ Below w.heap.size w w' := by
    intro w
    by_cases h : 0 ≤ Lib.indexByte s.data.toList 46
    · have hi : (Lib.indexByte s.data.toList 46).toNat < s.size := by
        have h2 := (Lib.indexByte_some (o := (Lib.indexByte s.data.toList 46).toNat) (by omega : Lib.indexByte s.data.toList 46 = ((Lib.indexByte s.data.toList 46).toNat : Nat))).1
        have h3 := (List.getElem?_eq_some_iff.1 h2).1
        simpa using h3
      have := cut_some0 s (Lib.indexByte s.data.toList 46).toNat w hs (by omega) hi
      unfold cutP; rw [if_pos h]; exact this
    · have h1 := Lib.indexByte_ge s.data.toList 46
      have := cut_none0 s w (by omega)
      unfold cutP; rw [if_neg h]
      have e : bs s.data.toList = s := by apply ByteArray.ext; simp [bs]
      simp only [e]; exact this
  generalize cutP s.data.toList = r at hF ⊢
  have HF := Lib.hid hF
  clear hF
  go_enter Tryz.func30, Tryz.ntmps30
  go_wp2_with fail
  refine (HF.out _).mono ?_
  rintro e w1 ⟨rfl, hb1⟩
  go_wp2
  go_ret3
  exact ⟨rfl, hb1⟩

/-- The value of decimal digits. -/
def valD (l : List UInt8) : Nat := l.foldl (fun a c => a * 10 + (c.toNat - 48)) 0

theorem pu_val : ∀ (l : List UInt8) (acc : Nat), allD l = true → (l.foldl (fun a c => a * 10 + (c.toNat - 48)) acc < 18446744073709551616 ∧ Lib.parseUint10 acc l = .ok (l.foldl (fun a c => a * 10 + (c.toNat - 48)) acc)) ∨ (18446744073709551616 ≤ l.foldl (fun a c => a * 10 + (c.toNat - 48)) acc ∧ (Lib.parseUint10 acc l = .range ∨ (l = [] ∧ Lib.parseUint10 acc l = .ok acc)))
  | [], acc, _ => by
    by_cases h : acc < 18446744073709551616
    · left; exact ⟨h, rfl⟩
    · right; exact ⟨by simpa using h, Or.inr ⟨rfl, rfl⟩⟩
  | c :: l, acc, h => by
    unfold allD at h
    rw [List.all_cons, Bool.and_eq_true] at h
    have hd : 48 ≤ c.toNat ∧ c.toNat ≤ 57 := by have := h.1; unfold isD at this; simpa using this
    have grow : ∀ (r : List UInt8) (x : Nat), x ≤ r.foldl (fun a c => a * 10 + (c.toNat - 48)) x := by
      intro r
      induction r with
      | nil => intro x; exact Nat.le_refl _
      | cons d r ih => intro x; rw [List.foldl_cons]; exact Nat.le_trans (by omega) (ih _)
    rw [List.foldl_cons]
    have hg := grow l (acc * 10 + (c.toNat - 48))
    unfold Lib.parseUint10
    rw [if_pos hd]
    by_cases h1 : 1844674407370955162 ≤ acc
    · rw [if_pos h1]; right; exact ⟨by omega, Or.inl rfl⟩
    · rw [if_neg h1]
      by_cases h2 : 18446744073709551616 ≤ acc * 10 + (c.toNat - 48)
      · rw [if_pos h2]; right; exact ⟨by omega, Or.inl rfl⟩
      · rw [if_neg h2]
        rcases pu_val l (acc * 10 + (c.toNat - 48)) h.2 with hh | ⟨hh, hk⟩
        · left; exact hh
        · right
          refine ⟨hh, Or.inl ?_⟩
          rcases hk with hk | ⟨hk, _⟩
          · exact hk
          · subst hk; simp only [List.foldl_nil] at hh; omega

theorem atoi_digits (l : List UInt8) (hne : l ≠ []) (h : allD l = true) : Lib.atoiAll l = if valD l < 9223372036854775808 then .ok (valD l : Int) else .range := by
  cases l with
  | nil => exact absurd rfl hne
  | cons c r =>
    have hd : 48 ≤ c.toNat ∧ c.toNat ≤ 57 := by
      unfold allD at h
      rw [List.all_cons, Bool.and_eq_true] at h
      have := h.1; unfold isD at this; simpa using this
    have hp := pu_val (c :: r) 0 h
    have n45 : ¬ c.toNat = 45 := by omega
    have n43 : ¬ c.toNat = 43 := by omega
    unfold Lib.atoiAll
    simp only [n43, n45, or_self, if_false]
    unfold Lib.parseMag
    rw [if_neg hne]
    unfold valD
    rcases hp with ⟨h1, h2⟩ | ⟨h1, h2⟩
    · rw [h2]
      by_cases h3 : List.foldl (fun a c => a * 10 + (c.toNat - 48)) 0 (c :: r) < 9223372036854775808
      · rw [if_pos h3]
        simp only []
        rw [if_neg (by omega)]
        simp
      · rw [if_neg h3]
        simp only []
        rw [if_pos ⟨by simp, by omega⟩]
    · rcases h2 with h2 | ⟨h2, _⟩
      · rw [h2, if_neg (by omega)]
      · exact absurd h2 hne

theorem atoi_ok (s : ByteArray) (v : Int) (w : World) (hs : s.size ≤ 281474976710656) (h : Lib.atoiAll s.data.toList = .ok v) :
    Calls Tryz.prog 33 #[.string s] w fun e w' => e = .returned (.tuple #[.int .i64 v, .nilIface]) ∧ Below w.heap.size w w' := by
  refine (Tryz.strconv_Atoi_ok s (by omega) v h w).mono ?_
  rintro e w' ⟨rfl, rfl | ⟨t, rfl⟩⟩
  · exact ⟨rfl, Below.refl _ _⟩
  · exact ⟨rfl, Lib.bytesWorld_below _ _ _⟩

theorem gRng : Tryz.prog.globalNamed "strconv.ErrRange" = some 2 := by kernel_rfl
/-- The error of what is no int reads as it was laid. -/
def Rng (w : World) : Prop := ∃ tp p, w.var? Tryz.prog "strconv.ErrRange" = some #[.iface tp p]
theorem var_lt {w : World} {n : String} {g : Nat} {v : Value} {cs : List Value} (hg : Tryz.prog.globalNamed n = some g) (h : w.var? Tryz.prog n = some (v :: cs).toArray) : g < w.heap.size := by
  have e := World.var?_cell hg h 0
  exact World.block_lt_of_cell? _ ⟨g, 0, none⟩ (u := v) (by simpa using e)
theorem Rng.below {w w1 : World} (h : Rng w) (hb : Below w.heap.size w w1) : Rng w1 := by
  obtain ⟨tq, q, h3⟩ := h
  exact ⟨tq, q, var?_below hb gRng (var_lt gRng h3) h3⟩

theorem atoi_range (s : ByteArray) (w : World) (hE : Rng w) (hs : s.size ≤ 281474976710656) (h : Lib.atoiAll s.data.toList = .range) :
    Calls Tryz.prog 33 #[.string s] w fun e w' => (∃ x N, e = .returned (.tuple #[.int .i64 x, .iface 81 (.pointer (some ⟨N, 0, none⟩))])) ∧ Below w.heap.size w w' := by
  obtain ⟨tq, q, hr⟩ := hE
  refine (Tryz.strconv_Atoi_range_var s hs h tq q w hr).mono ?_
  rintro e w' ⟨N, rfl, _, _, hb⟩
  exact ⟨⟨_, N, rfl⟩, hb⟩

/-! What Parse gives. -/
def unS (l : List UInt8) : List UInt8 := Lib.trimPrefix l [45]
def neS (l : List UInt8) : Bool := Lib.hasPrefix l [45]
def abS (l : List UInt8) : List UInt8 := (cutP (unS l)).1
def beS (l : List UInt8) : List UInt8 := (cutP (unS l)).2.1
/-- Has it the form? -/
def form (l : List UInt8) : Bool := whl (abS l) && (decide ((beS l).length = 2) && (allD (beS l) && !decide (l = [45, 48, 46, 48, 48])))
def valM (l : List UInt8) : Int := (valD (abS l ++ beS l) : Int)
def parM (l : List UInt8) : Int × Int := if form l = true then wth (if neS l = true then -(valM l) else valM l) else (0, 8)

theorem cutP_len (l : List UInt8) : (cutP l).1.length ≤ l.length ∧ (cutP l).2.1.length ≤ l.length := by
  unfold cutP
  split
  · simp only [List.length_take, List.length_drop]; omega
  · simp
theorem unS_len (l : List UInt8) : (unS l).length ≤ l.length := by
  unfold unS Lib.trimPrefix
  split
  · simp only [List.length_drop]; omega
  · exact Nat.le_refl _
theorem whl_digits {l : List UInt8} (h : whl l = true) : allD l = true ∧ l ≠ [] := by
  unfold whl at h
  simp only [Bool.or_eq_true, Bool.and_eq_true, decide_eq_true_eq] at h
  rcases h with h | ⟨⟨h1, _⟩, h2⟩
  · subst h; exact ⟨by decide, by simp⟩
  · exact ⟨h2, h1⟩

set_option maxRecDepth 100000 in
set_option maxHeartbeats 2000000 in
theorem parse_a (s U A B : ByteArray) (dv ng : Bool) (w : World) (kp : ∀ w : World, Calls Tryz.prog 29 #[.string s, .string ⟨#[45]⟩] w fun e w' => e = .returned (.tuple #[.string U, .bool ng]) ∧ w' = w) (kc : ∀ w : World, Calls Tryz.prog 30 #[.string U, .string ⟨#[46]⟩] w fun e w' => e = .returned (.tuple #[.string A, .string B, .bool dv]) ∧ Below w.heap.size w w') (kw : ∀ w : World, Calls Tryz.prog 31 #[.string A] w fun e w' => e = .returned (.bool false) ∧ Below w.heap.size w w') (_hsz : A.size ≤ 1000000) (_hsz2 : B.size ≤ 1000000) :
    Calls Tryz.prog 15 #[.string s] w fun e w' => e = .returned (.tuple #[.int .i64 ((0, 8) : Int × Int).1, .int .i64 ((0, 8) : Int × Int).2]) ∧ Below w.heap.size w w' := by
  have Hkp := Lib.hid kp
  have Hkc := Lib.hid kc
  have Hkw := Lib.hid kw
  clear kp kc kw
  go_enter Tryz.func15, Tryz.ntmps15
  go_wp2_with fail
  refine (Hkp.out _).mono ?_
  rintro _ w' ⟨rfl, rfl⟩
  go_wp2_with fail
  refine (Hkc.out _).mono ?_
  rintro _ w1 ⟨rfl, hb⟩
  have HB1 : Aside (Below _ _ w1) := hb
  clear hb
  go_wp2_with fail
  refine (Hkw.out _).mono ?_
  rintro _ w2 ⟨rfl, hb⟩
  have HB2 : Aside (Below _ _ w2) := HB1.out.trans (hb.mono HB1.out.size)
  clear hb HB1
  go_wp2
  go_ret2
  exact ⟨rfl, HB2.out⟩

set_option maxRecDepth 100000 in
set_option maxHeartbeats 2000000 in
theorem parse_b (s U A B : ByteArray) (dv ng : Bool) (w : World) (kp : ∀ w : World, Calls Tryz.prog 29 #[.string s, .string ⟨#[45]⟩] w fun e w' => e = .returned (.tuple #[.string U, .bool ng]) ∧ w' = w) (kc : ∀ w : World, Calls Tryz.prog 30 #[.string U, .string ⟨#[46]⟩] w fun e w' => e = .returned (.tuple #[.string A, .string B, .bool dv]) ∧ Below w.heap.size w w') (kw : ∀ w : World, Calls Tryz.prog 31 #[.string A] w fun e w' => e = .returned (.bool true) ∧ Below w.heap.size w w') (hne : ((B.size : Int) != 2) = true) (_hsz : A.size ≤ 1000000) (_hsz2 : B.size ≤ 1000000) :
    Calls Tryz.prog 15 #[.string s] w fun e w' => e = .returned (.tuple #[.int .i64 ((0, 8) : Int × Int).1, .int .i64 ((0, 8) : Int × Int).2]) ∧ Below w.heap.size w w' := by
  have Hkp := Lib.hid kp
  have Hkc := Lib.hid kc
  have Hkw := Lib.hid kw
  clear kp kc kw
  go_enter Tryz.func15, Tryz.ntmps15
  go_wp2_with fail
  refine (Hkp.out _).mono ?_
  rintro _ w' ⟨rfl, rfl⟩
  go_wp2_with fail
  refine (Hkc.out _).mono ?_
  rintro _ w1 ⟨rfl, hb⟩
  have HB1 : Aside (Below _ _ w1) := hb
  clear hb
  go_wp2_with fail
  refine (Hkw.out _).mono ?_
  rintro _ w2 ⟨rfl, hb⟩
  have HB2 : Aside (Below _ _ w2) := HB1.out.trans (hb.mono HB1.out.size)
  clear hb HB1
  go_wp2
  go_ret2
  exact ⟨rfl, HB2.out⟩

set_option maxRecDepth 100000 in
set_option maxHeartbeats 2000000 in
theorem parse_c (s U A B : ByteArray) (dv ng : Bool) (w : World) (kp : ∀ w : World, Calls Tryz.prog 29 #[.string s, .string ⟨#[45]⟩] w fun e w' => e = .returned (.tuple #[.string U, .bool ng]) ∧ w' = w) (kc : ∀ w : World, Calls Tryz.prog 30 #[.string U, .string ⟨#[46]⟩] w fun e w' => e = .returned (.tuple #[.string A, .string B, .bool dv]) ∧ Below w.heap.size w w') (kw : ∀ w : World, Calls Tryz.prog 31 #[.string A] w fun e w' => e = .returned (.bool true) ∧ Below w.heap.size w w') (hne : ((B.size : Int) != 2) = false) (kd : ∀ w : World, Calls Tryz.prog 32 #[.string B] w fun e w' => e = .returned (.bool false) ∧ Below w.heap.size w w') (_hsz : A.size ≤ 1000000) (_hsz2 : B.size ≤ 1000000) :
    Calls Tryz.prog 15 #[.string s] w fun e w' => e = .returned (.tuple #[.int .i64 ((0, 8) : Int × Int).1, .int .i64 ((0, 8) : Int × Int).2]) ∧ Below w.heap.size w w' := by
  have Hkp := Lib.hid kp
  have Hkc := Lib.hid kc
  have Hkw := Lib.hid kw
  have Hkd := Lib.hid kd
  clear kp kc kw kd
  go_enter Tryz.func15, Tryz.ntmps15
  go_wp2_with fail
  refine (Hkp.out _).mono ?_
  rintro _ w' ⟨rfl, rfl⟩
  go_wp2_with fail
  refine (Hkc.out _).mono ?_
  rintro _ w1 ⟨rfl, hb⟩
  have HB1 : Aside (Below _ _ w1) := hb
  clear hb
  go_wp2_with fail
  refine (Hkw.out _).mono ?_
  rintro _ w2 ⟨rfl, hb⟩
  have HB2 : Aside (Below _ _ w2) := HB1.out.trans (hb.mono HB1.out.size)
  clear hb HB1
  go_wp2_with fail
  refine (Hkd.out _).mono ?_
  rintro _ w3 ⟨rfl, hb⟩
  have HB3 : Aside (Below _ _ w3) := HB2.out.trans (hb.mono HB2.out.size)
  clear hb HB2
  go_wp2
  go_ret2
  exact ⟨rfl, HB3.out⟩

set_option maxRecDepth 100000 in
set_option maxHeartbeats 2000000 in
theorem parse_d (s U A B : ByteArray) (dv ng : Bool) (w : World) (kp : ∀ w : World, Calls Tryz.prog 29 #[.string s, .string ⟨#[45]⟩] w fun e w' => e = .returned (.tuple #[.string U, .bool ng]) ∧ w' = w) (kc : ∀ w : World, Calls Tryz.prog 30 #[.string U, .string ⟨#[46]⟩] w fun e w' => e = .returned (.tuple #[.string A, .string B, .bool dv]) ∧ Below w.heap.size w w') (kw : ∀ w : World, Calls Tryz.prog 31 #[.string A] w fun e w' => e = .returned (.bool true) ∧ Below w.heap.size w w') (hne : ((B.size : Int) != 2) = false) (kd : ∀ w : World, Calls Tryz.prog 32 #[.string B] w fun e w' => e = .returned (.bool true) ∧ Below w.heap.size w w') (heq : (s.toList == [45, 48, 46, 48, 48]) = true) (_hsz : A.size ≤ 1000000) (_hsz2 : B.size ≤ 1000000) :
    Calls Tryz.prog 15 #[.string s] w fun e w' => e = .returned (.tuple #[.int .i64 ((0, 8) : Int × Int).1, .int .i64 ((0, 8) : Int × Int).2]) ∧ Below w.heap.size w w' := by
  have Hkp := Lib.hid kp
  have Hkc := Lib.hid kc
  have Hkw := Lib.hid kw
  have Hkd := Lib.hid kd
  clear kp kc kw kd
  go_enter Tryz.func15, Tryz.ntmps15
  go_wp2_with fail
  refine (Hkp.out _).mono ?_
  rintro _ w' ⟨rfl, rfl⟩
  go_wp2_with fail
  refine (Hkc.out _).mono ?_
  rintro _ w1 ⟨rfl, hb⟩
  have HB1 : Aside (Below _ _ w1) := hb
  clear hb
  go_wp2_with fail
  refine (Hkw.out _).mono ?_
  rintro _ w2 ⟨rfl, hb⟩
  have HB2 : Aside (Below _ _ w2) := HB1.out.trans (hb.mono HB1.out.size)
  clear hb HB1
  go_wp2_with fail
  refine (Hkd.out _).mono ?_
  rintro _ w3 ⟨rfl, hb⟩
  have HB3 : Aside (Below _ _ w3) := HB2.out.trans (hb.mono HB2.out.size)
  clear hb HB2
  go_wp2
  go_ret2
  exact ⟨rfl, HB3.out⟩

set_option maxRecDepth 100000 in
set_option maxHeartbeats 2000000 in
theorem parse_e (s U A B : ByteArray) (dv ng : Bool) (w : World) (hR : Rng w) (kp : ∀ w : World, Calls Tryz.prog 29 #[.string s, .string ⟨#[45]⟩] w fun e w' => e = .returned (.tuple #[.string U, .bool ng]) ∧ w' = w) (kc : ∀ w : World, Calls Tryz.prog 30 #[.string U, .string ⟨#[46]⟩] w fun e w' => e = .returned (.tuple #[.string A, .string B, .bool dv]) ∧ Below w.heap.size w w') (kw : ∀ w : World, Calls Tryz.prog 31 #[.string A] w fun e w' => e = .returned (.bool true) ∧ Below w.heap.size w w') (hne : ((B.size : Int) != 2) = false) (kd : ∀ w : World, Calls Tryz.prog 32 #[.string B] w fun e w' => e = .returned (.bool true) ∧ Below w.heap.size w w') (heq : (s.toList == [45, 48, 46, 48, 48]) = false) (ka : ∀ w : World, Rng w → Calls Tryz.prog 33 #[.string (A ++ B)] w fun e w' => (∃ x N, e = .returned (.tuple #[.int .i64 x, .iface 81 (.pointer (some ⟨N, 0, none⟩))])) ∧ Below w.heap.size w w') (hsz : A.size ≤ 1000000) (hsz2 : B.size ≤ 1000000) :
    Calls Tryz.prog 15 #[.string s] w fun e w' => e = .returned (.tuple #[.int .i64 ((0, 3) : Int × Int).1, .int .i64 ((0, 3) : Int × Int).2]) ∧ Below w.heap.size w w' := by
  have Hkp := Lib.hid kp
  have Hkc := Lib.hid kc
  have Hkw := Lib.hid kw
  have Hkd := Lib.hid kd
  have Hka := Lib.hid ka
  have HR := Lib.hid hR
  clear kp kc kw kd ka hR
  go_enter Tryz.func15, Tryz.ntmps15
  go_wp2_with fail
  refine (Hkp.out _).mono ?_
  rintro _ w' ⟨rfl, rfl⟩
  go_wp2_with fail
  refine (Hkc.out _).mono ?_
  rintro _ w1 ⟨rfl, hb⟩
  have HB1 : Aside (Below _ _ w1) := hb
  clear hb
  go_wp2_with fail
  refine (Hkw.out _).mono ?_
  rintro _ w2 ⟨rfl, hb⟩
  have HB2 : Aside (Below _ _ w2) := HB1.out.trans (hb.mono HB1.out.size)
  clear hb HB1
  go_wp2_with fail
  refine (Hkd.out _).mono ?_
  rintro _ w3 ⟨rfl, hb⟩
  have HB3 : Aside (Below _ _ w3) := HB2.out.trans (hb.mono HB2.out.size)
  clear hb HB2
  go_wp2_with fail
  refine (Hka.out _ (HR.out.below HB3.out)).mono ?_
  rintro _ w4 ⟨⟨x, N, rfl⟩, hb⟩
  have HB4 : Aside (Below _ _ w4) := HB3.out.trans (hb.mono HB3.out.size)
  clear hb HB3
  go_wp2
  go_ret2
  exact ⟨rfl, HB4.out⟩

set_option maxRecDepth 100000 in
set_option maxHeartbeats 2000000 in
theorem parse_f (s U A B : ByteArray) (dv ng : Bool) (w : World) (v : Int) (_v0 : 0 ≤ v) (_v1 : v ≤ 9223372036854775807) (kp : ∀ w : World, Calls Tryz.prog 29 #[.string s, .string ⟨#[45]⟩] w fun e w' => e = .returned (.tuple #[.string U, .bool ng]) ∧ w' = w) (kc : ∀ w : World, Calls Tryz.prog 30 #[.string U, .string ⟨#[46]⟩] w fun e w' => e = .returned (.tuple #[.string A, .string B, .bool dv]) ∧ Below w.heap.size w w') (kw : ∀ w : World, Calls Tryz.prog 31 #[.string A] w fun e w' => e = .returned (.bool true) ∧ Below w.heap.size w w') (hne : ((B.size : Int) != 2) = false) (kd : ∀ w : World, Calls Tryz.prog 32 #[.string B] w fun e w' => e = .returned (.bool true) ∧ Below w.heap.size w w') (heq : (s.toList == [45, 48, 46, 48, 48]) = false) (ka : ∀ w : World, Calls Tryz.prog 33 #[.string (A ++ B)] w fun e w' => e = .returned (.tuple #[.int .i64 v, .nilIface]) ∧ Below w.heap.size w w') (hn : ng = false) (hsz : A.size ≤ 1000000) (hsz2 : B.size ≤ 1000000) :
    Calls Tryz.prog 15 #[.string s] w fun e w' => e = .returned (.tuple #[.int .i64 (wth v).1, .int .i64 (wth v).2]) ∧ Below w.heap.size w w' := by
  have Hkp := Lib.hid kp
  have Hkc := Lib.hid kc
  have Hkw := Lib.hid kw
  have Hkd := Lib.hid kd
  have Hka := Lib.hid ka
  clear kp kc kw kd ka
  have HKW := Lib.hid (fun w : World => within_any v w)
  subst hn
  go_enter Tryz.func15, Tryz.ntmps15
  go_wp2_with fail
  refine (Hkp.out _).mono ?_
  rintro _ w' ⟨rfl, rfl⟩
  go_wp2_with fail
  refine (Hkc.out _).mono ?_
  rintro _ w1 ⟨rfl, hb⟩
  have HB1 : Aside (Below _ _ w1) := hb
  clear hb
  go_wp2_with fail
  refine (Hkw.out _).mono ?_
  rintro _ w2 ⟨rfl, hb⟩
  have HB2 : Aside (Below _ _ w2) := HB1.out.trans (hb.mono HB1.out.size)
  clear hb HB1
  go_wp2_with fail
  refine (Hkd.out _).mono ?_
  rintro _ w3 ⟨rfl, hb⟩
  have HB3 : Aside (Below _ _ w3) := HB2.out.trans (hb.mono HB2.out.size)
  clear hb HB2
  go_wp2_with fail
  refine (Hka.out _).mono ?_
  rintro _ w4 ⟨rfl, hb⟩
  have HB4 : Aside (Below _ _ w4) := HB3.out.trans (hb.mono HB3.out.size)
  clear hb HB3
  go_wp2_with fail
  refine (HKW.out _).mono ?_
  rintro _ w5 ⟨rfl, hw⟩
  have hB := HB4.out
  rw [hw] at hB
  have HB5 : Aside _ := hB
  clear hw HB4 hB
  go_wp2
  go_ret2
  exact ⟨rfl, HB5.out⟩

set_option maxRecDepth 100000 in
set_option maxHeartbeats 2000000 in
theorem parse_g (s U A B : ByteArray) (dv ng : Bool) (w : World) (v : Int) (v0 : 0 ≤ v) (v1 : v ≤ 9223372036854775807) (kp : ∀ w : World, Calls Tryz.prog 29 #[.string s, .string ⟨#[45]⟩] w fun e w' => e = .returned (.tuple #[.string U, .bool ng]) ∧ w' = w) (kc : ∀ w : World, Calls Tryz.prog 30 #[.string U, .string ⟨#[46]⟩] w fun e w' => e = .returned (.tuple #[.string A, .string B, .bool dv]) ∧ Below w.heap.size w w') (kw : ∀ w : World, Calls Tryz.prog 31 #[.string A] w fun e w' => e = .returned (.bool true) ∧ Below w.heap.size w w') (hne : ((B.size : Int) != 2) = false) (kd : ∀ w : World, Calls Tryz.prog 32 #[.string B] w fun e w' => e = .returned (.bool true) ∧ Below w.heap.size w w') (heq : (s.toList == [45, 48, 46, 48, 48]) = false) (ka : ∀ w : World, Calls Tryz.prog 33 #[.string (A ++ B)] w fun e w' => e = .returned (.tuple #[.int .i64 v, .nilIface]) ∧ Below w.heap.size w w') (hn : ng = true) (hsz : A.size ≤ 1000000) (hsz2 : B.size ≤ 1000000) :
    Calls Tryz.prog 15 #[.string s] w fun e w' => e = .returned (.tuple #[.int .i64 (wth (-v)).1, .int .i64 (wth (-v)).2]) ∧ Below w.heap.size w w' := by
  have Hkp := Lib.hid kp
  have Hkc := Lib.hid kc
  have Hkw := Lib.hid kw
  have Hkd := Lib.hid kd
  have Hka := Lib.hid ka
  clear kp kc kw kd ka
  have HKW := Lib.hid (fun w : World => within_any (-v) w)
  subst hn
  go_enter Tryz.func15, Tryz.ntmps15
  go_wp2_with fail
  refine (Hkp.out _).mono ?_
  rintro _ w' ⟨rfl, rfl⟩
  go_wp2_with fail
  refine (Hkc.out _).mono ?_
  rintro _ w1 ⟨rfl, hb⟩
  have HB1 : Aside (Below _ _ w1) := hb
  clear hb
  go_wp2_with fail
  refine (Hkw.out _).mono ?_
  rintro _ w2 ⟨rfl, hb⟩
  have HB2 : Aside (Below _ _ w2) := HB1.out.trans (hb.mono HB1.out.size)
  clear hb HB1
  go_wp2_with fail
  refine (Hkd.out _).mono ?_
  rintro _ w3 ⟨rfl, hb⟩
  have HB3 : Aside (Below _ _ w3) := HB2.out.trans (hb.mono HB2.out.size)
  clear hb HB2
  go_wp2_with fail
  refine (Hka.out _).mono ?_
  rintro _ w4 ⟨rfl, hb⟩
  have HB4 : Aside (Below _ _ w4) := HB3.out.trans (hb.mono HB3.out.size)
  clear hb HB3
  go_wp2_with fail
  refine (HKW.out _).mono ?_
  rintro _ w5 ⟨rfl, hw⟩
  have hB := HB4.out
  rw [hw] at hB
  have HB5 : Aside _ := hB
  clear hw HB4 hB
  go_wp2
  go_ret2
  exact ⟨rfl, HB5.out⟩

theorem wth_big {v : Int} (h : v > 1000000000) (b : Bool) : wth (if b = true then -v else v) = (0, 3) := by
  have e : ∀ x : Int, ¬ (-1000000000 ≤ x ∧ x ≤ 1000000000) → wth x = (0, 3) := fun x hx => by
    unfold wth
    cases hh : amt x with
    | true => exact absurd ((amt_iff x).1 hh) hx
    | false => rfl
  cases b with
  | true => exact e _ (by simp; omega)
  | false => exact e _ (by simp; omega)

theorem parse_any (l : List UInt8) (w : World) (hR : Rng w) (hs : l.length ≤ 1000000) :
    Calls Tryz.prog 15 #[.string (bs l)] w fun e w' => e = .returned (.tuple #[.int .i64 (parM l).1, .int .i64 (parM l).2]) ∧ Below w.heap.size w w' := by
  have hul := unS_len l
  have hcl := cutP_len (unS l)
  have e0 : (bs l).data.toList = l := by simp [bs]
  have KP := Lib.hid (fun w : World => Tryz.strings_CutPrefix (bs l) ⟨#[45]⟩ w)
  rw [e0] at KP
  have KC := Lib.hid (fun w : World => cut_any (bs (unS l)) w (by rw [bs_size]; omega))
  have e1 : (bs (unS l)).data.toList = unS l := by simp [bs]
  rw [e1] at KC
  have KW := Lib.hid (fun w : World => isWhole_any (abS l) w (by unfold abS; omega))
  have KD := Lib.hid (fun w : World => areDigits_any (bs (beS l)) w (by rw [bs_size]; unfold beS; omega))
  have e2 : (bs (beS l)).data.toList = beS l := by simp [bs]
  rw [e2] at KD
  have hbsz : (bs (beS l)).size = (beS l).length := bs_size _
  have hasz : (bs (abS l)).size ≤ 1000000 := by rw [bs_size]; unfold abS; omega
  have hbsz2 : (bs (beS l)).size ≤ 1000000 := by rw [bs_size]; unfold beS; omega
  have HF : Hid (form l = (whl (abS l) && (decide ((beS l).length = 2) && (allD (beS l) && !decide (l = [45, 48, 46, 48, 48]))))) := rfl
  have HPM : Hid (parM l = if form l = true then wth (if neS l = true then -(valM l) else valM l) else (0, 8)) := rfl
  have KA : Aside (whl (abS l) = true → allD (beS l) = true → (∀ w, valD (abS l ++ beS l) < 9223372036854775808 → Calls Tryz.prog 33 #[.string (bs (abS l) ++ bs (beS l))] w fun e w' => e = .returned (.tuple #[.int .i64 (valM l), .nilIface]) ∧ Below w.heap.size w w') ∧
      (∀ w, Rng w → ¬ valD (abS l ++ beS l) < 9223372036854775808 → Calls Tryz.prog 33 #[.string (bs (abS l) ++ bs (beS l))] w fun e w' => (∃ x N, e = .returned (.tuple #[.int .i64 x, .iface 81 (.pointer (some ⟨N, 0, none⟩))])) ∧ Below w.heap.size w w')) := by
    intro h1 h2
    have hd := whl_digits h1
    have ha : allD (abS l ++ beS l) = true := by unfold allD at hd h2 ⊢; rw [List.all_append, hd.1, h2]; rfl
    have hne : abS l ++ beS l ≠ [] := by simp [hd.2]
    have hat := atoi_digits _ hne ha
    rw [bs_append]
    have e3 : (bs (abS l ++ beS l)).data.toList = abS l ++ beS l := by simp [bs]
    have hsz : (bs (abS l ++ beS l)).size ≤ 281474976710656 := by rw [bs_size, List.length_append]; unfold abS beS; omega
    refine ⟨fun w hv => atoi_ok _ _ w hsz (by rw [e3, hat, if_pos hv]; rfl), fun w hE hv => atoi_range _ w hE hsz (by rw [e3, hat, if_neg hv])⟩
  have HV : Hid (valM l = (valD (abS l ++ beS l) : Int)) := rfl
  have f0 : ((bs l).toList == [45, 48, 46, 48, 48]) = decide (l = [45, 48, 46, 48, 48]) := by
    rw [bs_list, Bool.eq_iff_iff]; simp
  have kp : ∀ w : World, Calls Tryz.prog 29 #[.string (bs l), .string ⟨#[45]⟩] w fun e w' => e = .returned (.tuple #[.string (bs (unS l)), .bool (neS l)]) ∧ w' = w := KP.out
  have hcon : ∀ b : Bool, decide ((beS l).length = 2) = b → (((bs (beS l)).size : Int) != 2) = !b := fun b hb => by
    rw [hbsz, ← hb, Bool.eq_iff_iff]; simp; omega
  cases h1 : whl (abS l) with
  | false =>
    rw [HPM.out, HF.out, h1]
    exact parse_a _ _ _ _ _ _ w kp KC.out (by rw [← h1]; exact KW.out) hasz hbsz2
  | true =>
    have kw := KW.out
    rw [h1] at kw
    cases h2 : decide ((beS l).length = 2) with
    | false =>
      rw [HPM.out, HF.out, h1, h2]
      exact parse_b _ _ _ _ _ _ w kp KC.out kw (hcon false h2) hasz hbsz2
    | true =>
      cases h3 : allD (beS l) with
      | false =>
        rw [HPM.out, HF.out, h1, h2, h3]
        exact parse_c _ _ _ _ _ _ w kp KC.out kw (hcon true h2) (by rw [← h3]; exact KD.out) hasz hbsz2
      | true =>
        have kd := KD.out
        rw [h3] at kd
        cases h4 : decide (l = [45, 48, 46, 48, 48]) with
        | true =>
          rw [HPM.out, HF.out, h1, h2, h3, h4]
          exact parse_d _ _ _ _ _ _ w kp KC.out kw (hcon true h2) kd (by rw [f0, h4]) hasz hbsz2
        | false =>
          have ka := KA.out h1 h3
          rw [HPM.out, HF.out, h1, h2, h3, h4]
          show Calls _ _ _ _ fun e w' => e = .returned (.tuple #[.int .i64 (wth (if neS l = true then -(valM l) else valM l)).1, .int .i64 (wth (if neS l = true then -(valM l) else valM l)).2]) ∧ Below w.heap.size w w'
          by_cases hv : valD (abS l ++ beS l) < 9223372036854775808
          · have v0 : 0 ≤ valM l := by rw [HV.out]; omega
            have v1 : valM l ≤ 9223372036854775807 := by rw [HV.out]; omega
            cases h5 : neS l with
            | false =>
              rw [h5] at kp
              exact parse_f _ _ _ _ _ _ w (valM l) v0 v1 kp KC.out kw (hcon true h2) kd (by rw [f0, h4]) (fun w => ka.1 w hv) rfl hasz hbsz2
            | true =>
              rw [h5] at kp
              exact parse_g _ _ _ _ _ _ w (valM l) v0 v1 kp KC.out kw (hcon true h2) kd (by rw [f0, h4]) (fun w => ka.1 w hv) rfl hasz hbsz2
          · have e : wth (if neS l = true then -(valM l) else valM l) = (0, 3) := by
              have hb : valM l > 1000000000 := by rw [HV.out]; omega
              exact wth_big hb (neS l)
            rw [e]
            exact parse_e _ _ _ _ _ _ w hR kp KC.out kw (hcon true h2) kd (by rw [f0, h4]) (fun w hE => ka.2 w hE hv) hasz hbsz2
end Go.Proofs.YtamccmeibnihpaaGreatDoor
