/-
  The law on joining: two sources with a line feed between them have the tokens of both.
-/
import Derived.Test.YtoaeceeookknnaaDoorLSame
import Derived.Test.YtoaeceeookknnaaDoorLErrorsW
namespace Go.Proofs.YtoaeceeookknnaaDoor
open Go.RowKit Lx

theorem lex_join {l m : List UInt8} {ts us : List Tok} (h1 : lex Vh l = .ok ts) (h2 : lex Vh m = .ok us) (hl : l.length + 1 + m.length ≤ 8000) :
    (ts.length + us.length ≤ 2000 ∧ lex Vh (l ++ 10 :: m) = .ok (ts ++ us.map (mov (l.length + 1 : Nat)))) ∨ (2000 < ts.length + us.length ∧ ∃ a, lex Vh (l ++ 10 :: m) = .er 2 a) := by
  have e : lex Vh (l ++ 10 :: m) = lx Vh 2000 0 (l ++ 10 :: m) := by unfold lex; rw [if_neg (by simp; omega)]
  unfold lex at h1 h2
  rw [if_neg (by omega)] at h1 h2
  have hj := lx_join 2000 0 l ts m h1
  have hmv := lx_mv (V := Vh) (2000 - ts.length) 0 (l.length + 1) m
  rw [Nat.add_assoc, hmv] at hj
  obtain ⟨f1, f2, f3⟩ := lx_fuel _ _ _ _ h2
  have g1 := (lx_fuel _ _ _ _ h1).1
  by_cases hc : us.length ≤ 2000 - ts.length
  · left
    rw [f2 _ hc] at hj
    exact ⟨by omega, by rw [e, hj]; rfl⟩
  · right
    obtain ⟨a, ha⟩ := f3 _ (Nat.lt_of_not_le hc)
    rw [ha] at hj
    exact ⟨by omega, _, by rw [e, hj]; rfl⟩
theorem SlT.take {w : World} {q : Option Addr} {b off n : Nat} {L : List Tok} (h : SlT w q b off n L) {k : Nat} (hk : k ≤ n) : SlT w q b off k (L.take k) :=
  ⟨by rw [List.length_take, h.ln]; omega, fun hp => h.ptr (by omega), fun j hj => by
    rw [List.length_take] at hj
    have := h.cells j (by omega)
    rw [List.getElem_take]; exact this, fun hp => h.lt (by omega), by have := h.max; omega⟩
theorem SlT.drop {w : World} {q : Option Addr} {b off n : Nat} {L : List Tok} (h : SlT w q b off n L) {k : Nat} (hk : k ≤ n) {q' : Option Addr} (hq : k < n → q' = some ⟨b, off + k * 5, none⟩) : SlT w q' b (off + k * 5) (n - k) (L.drop k) :=
  ⟨by rw [List.length_drop, h.ln], fun hp => hq (by omega), fun j hj => by
    rw [List.length_drop] at hj
    have := h.cells (k + j) (by omega)
    rw [List.getElem_drop, show off + k * 5 + j * 5 = off + (k + j) * 5 by omega]; exact this, fun hp => h.lt (by omega), by have := h.max; omega⟩
theorem SlT.tail {w : World} {q : Option Addr} {b n1 n2 : Nat} {L1 L2 : List Tok} (h : SlT w q b 0 (n1 + n2) (L1 ++ L2)) (h1 : L1.length = n1) : SlT w (Option.map (fun x => x.add (n1 * 5)) q) b (n1 * 5) n2 L2 := by
  have := h.drop (k := n1) (q' := Option.map (fun x => x.add (n1 * 5)) q) (by omega) (fun hk => by rw [h.ptr (by omega), Option.map_some, addr_add])
  rw [← h1, List.drop_left] at this
  rw [h1] at this
  rwa [Nat.zero_add, Nat.add_sub_cancel_left] at this
theorem SlT.tail0 {w : World} {q q' : Option Addr} {b n1 n2 : Nat} {L1 L2 : List Tok} (h : SlT w q b 0 (n1 + n2) (L1 ++ L2)) (h1 : L1.length = n1) (h2 : n2 = 0) : SlT w q' b 0 n2 L2 := by
  have hl := h.ln
  rw [List.length_append] at hl
  have : L2 = [] := List.length_eq_zero_iff.1 (by omega)
  subst this h2
  exact ⟨rfl, fun h => by omega, fun k h => by simp at h, fun h => by omega, by omega⟩
set_option maxRecDepth 100000 in
set_option maxHeartbeats 2000000 in
theorem joins_main (s t : ByteArray) (w : World) (l m : List UInt8) (ts us : List Tok) (hl : s.data.toList = l) (hm : t.data.toList = m) (hs : s.size ≤ 3900) (ht : t.size ≤ 3900) (h1 : lex Vh l = .ok ts) (h2 : lex Vh m = .ok us) :
    Calls Tryd.prog 6 #[.string s, .string t] w fun e w' => e = .returned (.bool true) ∧ RowKit.Below w.heap.size w w' := by
  have hsz : s.size = l.length := by rw [← hl, len_bytes]
  have htz : t.size = m.length := by rw [← hm, len_bytes]
  have hd : (s ++ ⟨#[10]⟩ ++ t).data.toList = l ++ 10 :: m := by rw [← hl, ← hm]; simp
  have K1 := Lib.hid (fun w => lexK (s := s) (l := l) (L := ts) (n := ts.length) (E := 0) (A := 0) w hl h1 rfl rfl rfl rfl (by omega))
  have K2 := Lib.hid (fun w => lexK (s := t) (l := m) (L := us) (n := us.length) (E := 0) (A := 0) w hm h2 rfl rfl rfl rfl (by omega))
  have T1 := Lib.hid (lex_at h1)
  have T2 := Lib.hid (lex_at h2)
  have d1 : decide ((3900 : Int) < (s.size : Int)) = false := decide_eq_false (by omega)
  have d2 : decide ((3900 : Int) < (t.size : Int)) = false := decide_eq_false (by omega)
  have d3 : ¬ (3900 : Int) < (s.size : Int) := by omega
  have d4 : ¬ (3900 : Int) < (t.size : Int) := by omega
  have hz : (s ++ ⟨#[10]⟩ ++ t).size ≤ 281474976710656 := by rw [← len_bytes, hd]; simp; omega
  have hls : ((l.length + 1 : Nat) : Int) = (s.size : Int) + 1 := by omega
  obtain ⟨mv, hmv⟩ : ∃ mv : Int, mv = (s.size : Int) + 1 := ⟨_, rfl⟩
  have hmv2 : 0 ≤ mv ∧ mv ≤ 1000000 := by omega
  obtain ⟨n1, hn1⟩ : ∃ n1, ts.length = n1 := ⟨_, rfl⟩
  obtain ⟨n2, hn2⟩ : ∃ n2, us.length = n2 := ⟨_, rfl⟩
  have hs1 := lex_short h1
  have hs2 := lex_short h2
  rw [hn1] at K1
  rw [hn2] at K2
  have hb1 : n1 ≤ 2000 := by rw [← hn1]; exact hs1
  have hb2 : n2 ≤ 2000 := by rw [← hn2]; exact hs2
  clear hs1 hs2
  have N1 := Lib.hid hn1
  have N2 := Lib.hid hn2
  rcases lex_join h1 h2 (by omega) with ⟨h3, h4⟩ | ⟨h3, a, h4⟩
  · rw [hn1, hn2] at h3
    have K3 := Lib.hid (fun w => lexK (s := s ++ ⟨#[10]⟩ ++ t) (L := ts ++ us.map (mov (l.length + 1 : Nat))) (n := n1 + n2) (E := 0) (A := 0) w hd h4 rfl (by simp [hn1, hn2]) rfl rfl hz)
    rw [hls, ← hmv] at K3
    have HMV := Lib.hid hmv
    clear hz hd h4 h1 h2 hl hm hn1 hn2 hsz htz hls hmv
    go_enter Tryd.func6, Tryd.ntmps6
    go_wp2_with fail
    refine (head_any _).mono ?_
    rintro _ w1 ⟨rfl, hb⟩
    have B1 := Lib.hid hb
    clear hb
    go_wp2_with fail
    refine (K1.out _).mono ?_
    rintro _ w2 ⟨q2, b2, cap2, rfl, s2, hc2, hb2⟩
    have S2 := Lib.hid s2
    have B2 := Lib.hid (B1.out.trans (hb2.mono B1.out.size))
    clear hb2 B1 s2
    go_wp2_with fail
    refine (K2.out _).mono ?_
    rintro _ w3 ⟨q3, b3, cap3, rfl, s3, hc3, hb3⟩
    have S3 := Lib.hid (S2.out.bel hb3)
    have R3 := Lib.hid s3
    have B3 := Lib.hid (B2.out.trans (hb3.mono B2.out.size))
    clear hb3 B2 s3 S2
    go_wp2_with fail
    refine (K3.out _).mono ?_
    rintro _ w4 ⟨q4, b4, cap4, rfl, s4, hc4, hb4⟩
    have S4 := Lib.hid (S3.out.bel hb4)
    have R4 := Lib.hid (R3.out.bel hb4)
    have U4 := Lib.hid s4
    have B4 := Lib.hid (B3.out.trans (hb4.mono B3.out.size))
    clear hb4 B3 s4 S3 R3
    go_wp2_with fail
    have V4 := Lib.hid (SlT.take U4.out (Nat.le_add_right n1 n2))
    rw [← N1.out, List.take_left, N1.out] at V4
    refine (same_yes ts ts 0 q2 q4 b2 0 cap2 n1 b4 0 cap4 n1 w4 S4.out V4.out (by omega) T1.out (mov_zero ts)).mono ?_
    rintro _ w5 ⟨rfl, hb5⟩
    have R5 := Lib.hid (R4.out.bel hb5)
    have U5 := Lib.hid (U4.out.bel hb5)
    have B5 := Lib.hid (B4.out.trans (hb5.mono B4.out.size))
    clear hb5 B4 S4 V4 R4 U4
    go_wp2_with fail
    · rw [← HMV.out]
      have KS := Lib.hid (same_yes us (us.map (mov mv)) mv q3 q4 b3 0 cap3 n2 b4 0 0 n2 w5 R5.out (SlT.tail0 U5.out N1.out (by omega)) hmv2 T2.out rfl)
      with_reducible refine KS.out.mono ?_
      rintro _ w6 ⟨rfl, hb6⟩
      have B6 := Lib.hid (B5.out.trans (hb6.mono B5.out.size))
      go_wp2_with fail
      go_ret
      exact ⟨rfl, B6.out⟩
    · rw [← HMV.out]
      have KS := Lib.hid (same_yes us (us.map (mov mv)) mv q3 (Option.map (fun x => x.add (n1 * 5)) q4) b3 0 cap3 n2 b4 (n1 * 5) (cap4 - n1) n2 w5 R5.out (SlT.tail U5.out N1.out) hmv2 T2.out rfl)
      with_reducible refine KS.out.mono ?_
      rintro _ w6 ⟨rfl, hb6⟩
      have B6 := Lib.hid (B5.out.trans (hb6.mono B5.out.size))
      go_wp2_with fail
      go_ret
      exact ⟨rfl, B6.out⟩
  · rw [hn1, hn2] at h3
    have K3 := Lib.hid (fun w => lexK (s := s ++ ⟨#[10]⟩ ++ t) (L := []) (n := 0) (E := 2) (A := a) w hd h4 rfl rfl rfl rfl hz)
    have d5 : decide ((2000 : Int) < (n1 : Int) + (n2 : Int)) = true := decide_eq_true (by omega)
    have d6 : (2000 : Int) < (n1 : Int) + (n2 : Int) := by omega
    clear hz hd h4 h1 h2 hl hm hn1 hn2 hsz htz hls hmv
    go_enter Tryd.func6, Tryd.ntmps6
    go_wp2_with fail
    refine (head_any _).mono ?_
    rintro _ w1 ⟨rfl, hb⟩
    have B1 := Lib.hid hb
    clear hb
    go_wp2_with fail
    refine (K1.out _).mono ?_
    rintro _ w2 ⟨q2, b2, cap2, rfl, s2, hc2, hb2⟩
    have B2 := Lib.hid (B1.out.trans (hb2.mono B1.out.size))
    clear hb2 B1 s2
    go_wp2_with fail
    refine (K2.out _).mono ?_
    rintro _ w3 ⟨q3, b3, cap3, rfl, s3, hc3, hb3⟩
    have B3 := Lib.hid (B2.out.trans (hb3.mono B2.out.size))
    clear hb3 B2 s3
    go_wp2_with fail
    refine (K3.out _).mono ?_
    rintro _ w4 ⟨q4, b4, cap4, rfl, s4, hc4, hb4⟩
    have B4 := Lib.hid (B3.out.trans (hb4.mono B3.out.size))
    clear hb4 B3 s4
    go_wp2_with fail
    go_ret
    exact ⟨rfl, B4.out⟩
set_option maxRecDepth 100000 in
set_option maxHeartbeats 2000000 in
theorem joins_up (s t : ByteArray) (w : World) (l m : List UInt8) (hl : s.data.toList = l) (hm : t.data.toList = m) (hs : s.size ≤ 281474976710656) (ht : t.size ≤ 281474976710656) (e1 e2 : Int) (h1 : (lex Vh l).e = e1) (h2 : (lex Vh m).e = e2)
    (h : e1 ≠ 0 ∨ (e1 = 0 ∧ e2 ≠ 0) ∨ (e1 = 0 ∧ e2 = 0 ∧ 3900 < s.size) ∨ (e1 = 0 ∧ e2 = 0 ∧ s.size ≤ 3900 ∧ 3900 < t.size)) :
    Calls Tryd.prog 6 #[.string s, .string t] w fun e w' => e = .returned (.bool true) ∧ RowKit.Below w.heap.size w w' := by
  have K1 := Lib.hid (fun w => lexK (s := s) w hl rfl rfl rfl h1 rfl hs)
  have K2 := Lib.hid (fun w => lexK (s := t) w hm rfl rfl rfl h2 rfl ht)
  generalize (lex Vh l).tk = L1 at *
  generalize (lex Vh m).tk = L2 at *
  generalize L1.length = n1 at *
  generalize L2.length = n2 at *
  clear h1 h2 hl hm
  rcases h with h | ⟨rfl, h⟩ | ⟨rfl, rfl, h⟩ | ⟨rfl, rfl, h0, h⟩
  all_goals
    first
      | have q1 : (e1 != 0) = true := by simpa using h
      | have q2 : (e2 != 0) = true := by simpa using h
      | (have q5 : decide ((3900 : Int) < (s.size : Int)) = false := decide_eq_false (by omega)
         have q6 : decide ((3900 : Int) < (t.size : Int)) = true := decide_eq_true (by omega))
      | have q3 : decide ((3900 : Int) < (s.size : Int)) = true := decide_eq_true (by omega)
    go_enter Tryd.func6, Tryd.ntmps6
    go_wp2_with fail
    refine (head_any _).mono ?_
    rintro _ w1 ⟨rfl, hb⟩
    have B1 := Lib.hid hb
    clear hb
    go_wp2_with fail
    refine (K1.out _).mono ?_
    rintro _ w2 ⟨q2, b2, cap2, rfl, s2, hc2, hb2⟩
    have B2 := Lib.hid (B1.out.trans (hb2.mono B1.out.size))
    clear hb2 B1 s2
    go_wp2_with fail
    refine (K2.out _).mono ?_
    rintro _ w3 ⟨q3, b3, cap3, rfl, s3, hc3, hb3⟩
    have B3 := Lib.hid (B2.out.trans (hb3.mono B2.out.size))
    clear hb3 B2 s3
    go_wp2_with fail
    go_ret
    exact ⟨rfl, B3.out⟩
theorem joins_law (s t : ByteArray) (w : World) (hs : s.size ≤ 281474976710656) (ht : t.size ≤ 281474976710656) :
    Calls Tryd.prog 6 #[.string s, .string t] w fun e w' => e = .returned (.bool true) ∧ RowKit.Below w.heap.size w w' := by
  cases h1 : lex Vh s.data.toList with
  | er E a =>
    exact joins_up s t w _ _ rfl rfl hs ht E _ (by rw [h1]; rfl) rfl (Or.inl (lex_er h1).1)
  | ok ts =>
    cases h2 : lex Vh t.data.toList with
    | er E a => exact joins_up s t w _ _ rfl rfl hs ht 0 E (by rw [h1]; rfl) (by rw [h2]; rfl) (Or.inr (Or.inl ⟨rfl, (lex_er h2).1⟩))
    | ok us =>
      by_cases h3 : 3900 < s.size
      · exact joins_up s t w _ _ rfl rfl hs ht 0 0 (by rw [h1]; rfl) (by rw [h2]; rfl) (Or.inr (Or.inr (Or.inl ⟨rfl, rfl, h3⟩)))
      by_cases h4 : 3900 < t.size
      · exact joins_up s t w _ _ rfl rfl hs ht 0 0 (by rw [h1]; rfl) (by rw [h2]; rfl) (Or.inr (Or.inr (Or.inr ⟨rfl, rfl, by omega, h4⟩)))
      exact joins_main s t w _ _ ts us rfl rfl (by omega) (by omega) h1 h2
end Go.Proofs.YtoaeceeookknnaaDoor
