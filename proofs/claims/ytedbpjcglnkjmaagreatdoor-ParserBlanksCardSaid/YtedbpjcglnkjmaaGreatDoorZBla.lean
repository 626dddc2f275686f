/-
  The law on blanks: with other gaps between the tokens the by-laws, and the kinds of errors, are the same.
-/
import Derived.Test.YtedbpjcglnkjmaaGreatDoorZR
import Derived.Test.YtedbpjcglnkjmaaGreatDoorZQ
namespace Go.Proofs.YtedbpjcglnkjmaaGreatDoor
open Go.RowKit Lx Pa

/-- A slice reads as a list of bytes. -/
structure SlB (w : World) (p : Option Addr) (b off len : Nat) (l : List UInt8) : Prop where
  ln : l.length = len
  ptr : 0 < len → p = some ⟨b, off, none⟩
  cells : ∀ (k : Nat) (h : k < l.length), w.cell? ⟨b, off + k, none⟩ = some (.int .u8 l[k].toNat)
  lt : 0 < len → b < w.heap.size
  max : len ≤ 9223372036854775807
theorem SlB.bel {w w1 : World} {p : Option Addr} {b off len : Nat} {l : List UInt8} (h : SlB w p b off len l) (hB : RowKit.Below w.heap.size w w1) : SlB w1 p b off len l :=
  ⟨h.ln, h.ptr, fun k hk => (hB.cell (p := ⟨b, off + k, none⟩) (h.lt (by have := h.ln; omega))).trans (h.cells k hk), fun x => Nat.lt_of_lt_of_le (h.lt x) hB.size, h.max⟩
theorem gap_at (r : Nat) (hr : r < 4) : #[.string ⟨#[32]⟩, .string ⟨#[10]⟩, .string ⟨#[32, 32]⟩, .string ⟨#[32, 35, 32, 120, 59, 10]⟩][r]? = some (Value.string (bs (gapK r))) := by
  rcases (show r = 0 ∨ r = 1 ∨ r = 2 ∨ r = 3 by omega) with rfl | rfl | rfl | rfl <;> rfl
theorem gat' {w : World} {b : Nat} {ofs : Nat → Int} {es : List (Int × Nat)} (h : RowAt w b (es.flatMap (gV ofs))) (k : Nat) (hk : k < es.length) : w.cell? ⟨b, k * 2, none⟩ = some (.int .i64 (ofs es[k].2)) ∧ w.cell? ⟨b, k * 2 + 1, none⟩ = some (.int .i64 es[k].1) := by
  rw [List.flatMap_def] at h
  have hs : ∀ x ∈ es.map (gV ofs), x.length = 2 := fun x hx => by
    obtain ⟨y, -, rfl⟩ := List.mem_map.1 hx; rfl
  have f := flat_at (es.map (gV ofs)) k (by simpa using hk) hs
  rw [List.getElem_map] at f
  exact ⟨by have := h _ _ (f 0 _ rfl); simpa using this, by have := h _ _ (f 1 _ rfl); simpa using this⟩
/-- Which gap comes before a token. -/
def gapN (bl : List UInt8) (i : Nat) : Nat := if 0 < bl.length then (bl.getD (i % bl.length) 0).toNat % 4 else 0
set_option maxRecDepth 100000 in
set_option maxHeartbeats 12000000 in
theorem blanks_main (s : ByteArray) (l : List UInt8) (ts : List Tok) (ps : List (List UInt8)) (p : Option Addr) (b off len cap : Nat) (bl : List UInt8) (w : World) (hl : s.data.toList = l) (hs : s.size ≤ 900) (hx : lex Vh l = .ok ts) (hp : Pcs Vh l 0 ts ps) (hB : SlB w p b off len bl) :
    Calls Tryz.prog 4 #[.string s, .slice p len cap] w fun e w' => e = .returned (.bool true) ∧ RowKit.Below w.heap.size w w' := by
  have hsz : s.size = l.length := by rw [← hl, len_bytes]
  obtain ⟨kk, hkk⟩ : ∃ k, gapN bl = k := ⟨_, rfl⟩
  have HK4 : Hid (∀ i, kk i < 4) := fun i => by rw [← hkk]; unfold gapN; split <;> omega
  have HKK : Hid (∀ i, 0 < len → kk i = (bl.getD (i % len) 0).toNat % 4) := fun i h => by rw [← hkk]; unfold gapN; rw [hB.ln, if_pos h]
  have HK0 : Hid (∀ i, ¬ 0 < len → kk i = 0) := fun i h => by rw [← hkk]; unfold gapN; rw [hB.ln, if_neg h]
  obtain ⟨X, hX⟩ : ∃ X, weave kk 0 ps = X := ⟨_, rfl⟩
  have hpl := pcs_len ts ps 0 hp
  have htl := lex_len hx
  have HXL : Hid (X.length ≤ 6300) := by
    show _ ≤ _
    have h1 := weave_len kk ps 0
    have h2 := pcs_le ts ps 0 hp
    rw [hX] at h1
    omega
  have HX : Hid ([] ++ weave kk 0 (ps.drop 0) = X) := by show _ = _; rw [List.drop_zero, List.nil_append]; exact hX
  obtain ⟨c, hc⟩ : ∃ c, byR l = c := ⟨_, rfl⟩
  have hc2 : byR (X ++ [10]) = c := by rw [← hX, by_blank kk hx hp (by omega)]; exact hc
  obtain ⟨d, hd⟩ : ∃ x, dN c = x := ⟨_, rfl⟩
  obtain ⟨r, hr⟩ : ∃ x, rN c = x := ⟨_, rfl⟩
  obtain ⟨n, hn⟩ : ∃ x, c.es.length = x := ⟨_, rfl⟩
  have hn20 : n ≤ 20 := by rw [← hn, ← hc]; exact (by_errs l).1
  have hdat : (bs X ++ ⟨#[10]⟩).data.toList = X ++ [10] := by simp [bs]
  have hz2 : (bs X ++ ⟨#[10]⟩).size ≤ 281474976710656 := by have := HXL.out; rw [← len_bytes, hdat]; simp; omega
  have KL := Lib.hid (fun w => lexed_ok s l ts ps hl (by omega) hx hp w)
  have KA := Lib.hid (fun w => parS (s := s) w hl hc hd hr hn (by omega))
  have KB := Lib.hid (fun w => parS (s := bs X ++ ⟨#[10]⟩) w hdat hc2 hd hr hn hz2)
  obtain ⟨n0, hn0⟩ : ∃ n, ps.length = n := ⟨_, rfl⟩
  rw [hn0] at KL
  have hn0b : n0 ≤ 900 := by omega
  have PL := Lib.hid hn0
  have HN := Lib.hid hn
  have HC := Lib.hid hc
  have HD := Lib.hid hd
  have HR := Lib.hid hr
  have SB := Lib.hid hB
  have d1 : decide ((900 : Int) < (s.size : Int)) = false := decide_eq_false (by omega)
  have hlm := hB.max
  clear hsz hl hx hp hB hX hpl htl hc hc2 hd hr hn hdat hz2 hn0 hkk
  go_enter Tryz.func4, Tryz.ntmps4
  go_wp2_with fail
  refine (head_any _).mono ?_
  rintro _ w0 ⟨rfl, hb⟩
  have B0 := Lib.hid hb
  clear hb
  go_wp2_with fail
  refine (KL.out _).mono ?_
  rintro _ w1 ⟨q, cq, rfl, ho, hb⟩
  have O1 := Lib.hid ho
  have B1 := Lib.hid (B0.out.trans (hb.mono B0.out.size))
  have SB1 := Lib.hid (SB.out.bel B1.out)
  clear ho hb KL B0
  go_wp2_with fail
  go_loopg [8, 33] n0 (fun g s8 s33 wr => ∃ (k : Nat) (T : List UInt8), s33 = .int .i64 (k : Nat) ∧ s8 = .string (bs T) ∧ k ≤ n0 ∧ n0 - k ≤ g ∧ Hid (T ++ weave kk k (ps.drop k) = X) ∧ Hid (RowKit.Below w1.heap.size w1 wr))
  case atStart => exact ⟨0, [], by first | rfl | simp, rfl, by omega, by omega, HX.out, Below.refl _ _⟩
  case round =>
    obtain ⟨k, T, rfl, rfl, hk, hkg, HT, BB⟩ := hrel
    by_cases hlt : k < n0
    · have hz : (k : Int) < (n0 : Int) := by omega
      have hkP : k < ps.length := by rw [PL.out]; exact hlt
      have hk1 : IntKind.i64.wrap ((k : Int) + 1) = ((k + 1 : Nat) : Int) := by rw [IntWalk.i64_in _ (by omega)]; rfl
      obtain ⟨g1, cap1, e, -, hgl, hrow, -⟩ := own_at O1.out (by rw [PL.out]; omega)
      simp only [Value.slice.injEq] at e
      obtain ⟨rfl, -, rfl⟩ := e
      have hc := (BB.out.cell (p := ⟨g1, k, none⟩) hgl).trans (hrow k (vSt ps[k]) (by rw [List.getElem?_map, List.getElem?_eq_getElem hkP]; rfl))
      unfold vSt at hc
      have hT := HT.out
      rw [List.drop_eq_getElem_cons hkP] at hT
      obtain ⟨r, hr⟩ : ∃ r, kk k = r := ⟨_, rfl⟩
      have hr4 : r < 4 := by rw [← hr]; exact HK4.out k
      have HT' : Hid ((T ++ (gapK r ++ ps[k])) ++ weave kk (k + 1) (ps.drop (k + 1)) = X) := by
        show _ = _
        rw [← hT, weave, hr]; simp
      have hTl : T.length + (gapK r).length + ps[k].length ≤ 6300 := by
        have := congrArg List.length HT'.out
        have hx := HXL.out
        simp only [List.length_append] at this
        omega
      clear hT hrow HT
      have HRR := Lib.hid hr
      generalize ps[k] = P at *
      have z1 : (bs T).size ≤ 6300 := by rw [bs_size]; omega
      have z2 : (bs (gapK r)).size + (bs P).size ≤ 6300 := by rw [bs_size, bs_size]; omega
      have EQ : Hid (bs T ++ (bs (gapK r) ++ bs P) = bs (T ++ (gapK r ++ P))) := by show _ = _; rw [bs_app, bs_app]
      have hc4 : (wr.alloc (.cells #[.string ⟨#[32]⟩, .string ⟨#[10]⟩, .string ⟨#[32, 32]⟩, .string ⟨#[32, 35, 32, 120, 59, 10]⟩] 9)).cell? ⟨wr.heap.size, r, none⟩ = some (.string (bs (gapK r))) := by
        rw [cell_of_row _ _ _ _ _ _ (heap_alloc_new wr _)]; exact gap_at r hr4
      have BF : Hid (RowKit.Below w1.heap.size w1 (wr.alloc (.cells #[.string ⟨#[32]⟩, .string ⟨#[10]⟩, .string ⟨#[32, 32]⟩, .string ⟨#[32, 35, 32, 120, 59, 10]⟩] 9))) := BB.out.trans (((Below.refl _ wr).alloc (Nat.le_refl _) _).mono BB.out.size)
      clear hTl hr
      by_cases hln : 0 < len
      · have hlz : (0 : Int) < (len : Int) := by omega
        obtain ⟨j, hj⟩ : ∃ j, k % len = j := ⟨_, rfl⟩
        have hjl : j < len := by rw [← hj]; exact Nat.mod_lt _ hln
        have hjb : j < bl.length := by rw [SB1.out.ln]; exact hjl
        have hjz : (j : Int) < (len : Int) := by omega
        have hm1 : Int.tmod (k : Int) (len : Int) = (j : Int) := by rw [← hj]; exact (Int.tmod_eq_emod_of_nonneg (by omega)).trans (by omega)
        have hcb := (SB1.out.bel BB.out).cells j hjb
        have hpp := SB1.out.ptr hln
        have hm2 : Int.tmod ((bl[j].toNat : Nat) : Int) 4 = (r : Int) := by
          rw [Int.tmod_eq_emod_of_nonneg (by omega), ← HRR.out, HKK.out k hln, hj, List.getD_eq_getElem?_getD, List.getElem?_eq_getElem hjb, Option.getD_some]
          omega
        have hbz : bl[j].toNat < 256 := bl[j].toNat_lt
        generalize bl[j].toNat = cc at *
        subst hpp
        clear hj
        go_wp2_with fail
        go_roundg (n0 - (k + 1))
        case measure => omega
        case rel => exact ⟨k + 1, _, by first | rfl | simp, by rw [EQ.out], by omega, Nat.le_refl _, HT', BF⟩
      · have hlz : ¬ (0 : Int) < (len : Int) := by omega
        have hr0 : r = 0 := by rw [← HRR.out]; exact HK0.out k hln
        subst hr0
        go_wp2_with fail
        go_roundg (n0 - (k + 1))
        case measure => omega
        case rel => exact ⟨k + 1, _, by first | rfl | simp, by rw [EQ.out], by omega, Nat.le_refl _, HT', BF⟩
    · have hz : ¬ (k : Int) < (n0 : Int) := by omega
      obtain rfl : k = n0 := by omega
      have hTX : T = X := by
        have h := HT.out
        rw [List.drop_eq_nil_of_le (by rw [PL.out]; omega), weave, List.append_nil] at h
        exact h
      subst hTX
      have B2 := Lib.hid (B1.out.trans (BB.out.mono B1.out.size))
      have zT : (bs T).size ≤ 6300 := by rw [bs_size]; exact HXL.out
      clear HT BB O1
      go_wp2_with fail
      refine (KA.out _).mono ?_
      rintro _ v3 ⟨qd3, cd3, qr3, cr3, qg3, cg3, ns3, rfl, hp, hb⟩
      have bV := (Below.refl _ v3).alloc (Nat.le_refl _) (.cells #[.slice qd3 d cd3, .slice qr3 r cr3] 26)
      have hbV := hb.trans (bV.mono hb.size)
      have B3 := Lib.hid (B2.out.trans (hbV.mono B2.out.size))
      have P3 := Lib.hid (hp.bel bV)
      have A3 := Lib.hid (At2.new v3 (.slice qd3 d cd3) (.slice qr3 r cr3) 26)
      clear bV hbV hb hp
      go_wp2_with fail
      generalize v3.alloc (.cells #[.slice qd3 d cd3, .slice qr3 r cr3] 26) = V3 at *
      refine (KB.out _).mono ?_
      rintro _ v4 ⟨qd4, cd4, qr4, cr4, qg4, cg4, ns4, rfl, hp, hb⟩
      have bV := (Below.refl _ v4).alloc (Nat.le_refl _) (.cells #[.slice qd4 d cd4, .slice qr4 r cr4] 26)
      have hbV := hb.trans (bV.mono hb.size)
      have B4 := Lib.hid (B3.out.trans (hbV.mono B3.out.size))
      have P4 := Lib.hid (hp.bel bV)
      have A4 := Lib.hid (At2.new v4 (.slice qd4 d cd4) (.slice qr4 r cr4) 26)
      replace P3 := Lib.hid (P3.out.bel hbV)
      replace A3 := Lib.hid (A3.out.bel hbV)
      clear bV hbV hb hp
      go_wp2_with fail
      generalize v4.alloc (.cells #[.slice qd4 d cd4, .slice qr4 r cr4] 26) = V4 at *
      go_loopg [77] n (fun g s77 wr => ∃ k : Nat, s77 = .int .i64 (k : Nat) ∧ k ≤ n ∧ n - k ≤ g ∧ Hid (RowKit.Below V4.heap.size V4 wr))
      case atStart => exact ⟨0, by first | rfl | simp, by omega, by omega, Below.refl _ _⟩
      case round =>
        obtain ⟨k, rfl, hk, hkg, BB⟩ := hrel
        have P3' := Lib.hid (P3.out.bel BB.out)
        have P4' := Lib.hid (P4.out.bel BB.out)
        have B5 := Lib.hid (B4.out.trans (BB.out.mono B4.out.size))
        by_cases hlt : k < n
        · have hz : (k : Int) < (n : Int) := by omega
          have hkE : k < c.es.length := by rw [HN.out]; exact hlt
          have hk1 : IntKind.i64.wrap ((k : Int) + 1) = ((k + 1 : Nat) : Int) := by rw [IntWalk.i64_in _ (by omega)]; rfl
          obtain ⟨g3, rfl, r3⟩ := P3'.out.gr (by omega)
          obtain ⟨g4, rfl, r4⟩ := P4'.out.gr (by omega)
          obtain ⟨-, y3⟩ := gat' r3 k hkE
          obtain ⟨-, y4⟩ := gat' r4 k hkE
          generalize c.es[k].1 = E at *
          clear r3 r4
          go_wp2_with fail
          go_quiet (fail)
          go_wp2_with fail
          go_roundg (n - (k + 1))
          case measure => omega
          case rel => exact ⟨k + 1, by first | rfl | simp, by omega, Nat.le_refl _, below_drewN BB.out _⟩
        · have hz : ¬ (k : Int) < (n : Int) := by omega
          have x0 := (A3.out.bel BB.out).c0
          have x1 := (A3.out.bel BB.out).c1
          have y0 := (A4.out.bel BB.out).c0
          have y1 := (A4.out.bel BB.out).c1
          go_wp2_with fail
          refine (codex_same HC.out HD.out HR.out _ _ _ _ _ P3'.out P4'.out).mono ?_
          rintro _ v6 ⟨rfl, hb⟩
          have B6 := Lib.hid (B5.out.trans (hb.mono B5.out.size))
          clear hb
          go_wp2_with fail
          go_ret
          exact ⟨rfl, B6.out⟩
set_option maxRecDepth 100000 in
set_option maxHeartbeats 3000000 in
theorem blanks_law (s : ByteArray) (p : Option Addr) (b off len cap : Nat) (bl : List UInt8) (w : World) (hs : s.size ≤ 281474976710656) (hB : SlB w p b off len bl) :
    Calls Tryz.prog 4 #[.string s, .slice p len cap] w fun e w' => e = .returned (.bool true) ∧ RowKit.Below w.heap.size w w' := by
  obtain ⟨l, hl⟩ : ∃ l, s.data.toList = l := ⟨_, rfl⟩
  cases hx : lex Vh l with
  | ok ts =>
    obtain ⟨ps, hp⟩ := lex_pcs hx
    by_cases h9 : s.size ≤ 900
    · exact blanks_main s l ts ps p b off len cap bl w hl h9 hx hp hB
    have KL := Lib.hid (fun w => lexed_ok s l ts ps hl hs hx hp w)
    have d1 : decide ((900 : Int) < (s.size : Int)) = true := decide_eq_true (by omega)
    clear hl hx hp hB h9
    go_enter Tryz.func4, Tryz.ntmps4
    go_wp2_with fail
    refine (head_any _).mono ?_
    rintro _ w0 ⟨rfl, hb⟩
    have B0 := Lib.hid hb
    clear hb
    go_wp2_with fail
    refine (KL.out _).mono ?_
    rintro _ w1 ⟨q, cq, rfl, -, hb⟩
    have B1 := Lib.hid (B0.out.trans (hb.mono B0.out.size))
    clear hb
    go_wp2_with fail
    go_ret
    exact ⟨rfl, B1.out⟩
  | er E a =>
    have KL := Lib.hid (fun w => lexed_er s l E a hl hs hx w)
    clear hl hx hB
    go_enter Tryz.func4, Tryz.ntmps4
    go_wp2_with fail
    refine (head_any _).mono ?_
    rintro _ w0 ⟨rfl, hb⟩
    have B0 := Lib.hid hb
    clear hb
    go_wp2_with fail
    refine (KL.out _).mono ?_
    rintro _ w1 ⟨rfl, hb⟩
    have B1 := Lib.hid (B0.out.trans (hb.mono B0.out.size))
    clear hb
    go_wp2_with fail
    all_goals
      go_ret
      exact ⟨rfl, B1.out⟩
end Go.Proofs.YtedbpjcglnkjmaaGreatDoor
