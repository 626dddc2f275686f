/-
  The law on gaps: a gap that is put before a token, or at the end, changes the offsets behind it alone.
-/
import Derived.Test.YtoaeceeookknnaaDoorLGapW
namespace Go.Proofs.YtoaeceeookknnaaDoor
open Go.RowKit Lx

theorem tmod_lt {k : Int} {n : Nat} : -(n : Int) ≤ Int.tmod k ((n : Int) + 1) ∧ Int.tmod k ((n : Int) + 1) ≤ n := by
  have h := Int.tmod_lt_of_pos k (b := (n : Int) + 1) (by omega)
  have h2 := Int.lt_tmod_of_pos k (b := (n : Int) + 1) (by omega)
  omega
set_option maxRecDepth 100000 in
set_option maxHeartbeats 3000000 in
theorem gaps_main (s : ByteArray) (kk : Int) (p : Option Addr) (b off len cap : Nat) (bl : List UInt8) (w : World) (l : List UInt8) (ts : List Tok) (hl : s.data.toList = l) (hs : s.size ≤ 7900) (h1 : lex Vh l = .ok ts) (hB : SlB w p b off len bl) (hcap : len ≤ cap) (_hk : -9223372036854775808 ≤ kk ∧ kk ≤ 9223372036854775807) :
    Calls Tryd.prog 5 #[.string s, .int .i64 kk, .slice p len cap] w fun e w' => e = .returned (.bool true) ∧ RowKit.Below w.heap.size w w' := by
  have hsz : s.size = l.length := by rw [← hl, len_bytes]
  have KL := Lib.hid (fun w => lexK (s := s) (l := l) (L := ts) (n := ts.length) (E := 0) (A := 0) w hl h1 rfl rfl rfl rfl (by omega))
  have hs1 := lex_short h1
  have TA := Lib.hid (lex_at h1)
  obtain ⟨n1, hn1⟩ : ∃ n1, ts.length = n1 := ⟨_, rfl⟩
  rw [hn1] at KL hs1
  have N1 := Lib.hid hn1
  have HB0 := Lib.hid hB
  have H1 := Lib.hid h1
  have HL := Lib.hid hl
  have HZ := Lib.hid hsz
  have d1 : decide ((7900 : Int) < (s.size : Int)) = false := decide_eq_false (by omega)
  have d2 : ¬ (7900 : Int) < (s.size : Int) := by omega
  have hr := tmod_lt (k := kk) (n := n1)
  obtain ⟨r, hrr⟩ : ∃ r, Int.tmod kk ((n1 : Int) + 1) = r := ⟨_, rfl⟩
  rw [hrr] at hr
  obtain ⟨j, hj⟩ : ∃ j : Nat, (j : Int) = if r < 0 then r + (n1 + 1) else r := by
    by_cases h : r < 0
    · rw [if_pos h]; exact ⟨(r + (n1 + 1)).toNat, by omega⟩
    · rw [if_neg h]; exact ⟨r.toNat, by omega⟩
  obtain ⟨g, hg⟩ : ∃ g, g = gapL bl := ⟨_, rfl⟩
  have KG := Lib.hid (fun (w1 : World) (hw : RowKit.Below w.heap.size w w1) => gap_any p b off len cap bl w1 (HB0.out.below hw HB0.out.lt) hcap)
  have HG := Lib.hid hg
  rw [← hg] at KG
  clear hl h1 hn1 hsz hB hg
  go_enter Tryd.func5, Tryd.ntmps5
  go_wp2_with fail
  refine (head_any _).mono ?_
  rintro _ w1 ⟨rfl, hb⟩
  have B1 := Lib.hid hb
  clear hb
  go_wp2_with fail
  refine (KL.out _).mono ?_
  rintro _ w2 ⟨q2, b2, cap2, rfl, s2, hc2, hb2⟩
  have S2 := Lib.hid s2
  have B2 := Lib.hid (B1.out.trans (hb2.mono B1.out.size))
  clear hb2 B1 s2
  by_cases hneg : r < 0
  · rw [if_pos hneg] at hj
    go_wp2_with fail
    rw [← hj]
    have hjn : j ≤ n1 := by omega
    clear hj hrr hr hneg
    refine (KG.out _ B2.out).mono ?_
    rintro _ w3 ⟨rfl, hb3⟩
    have S3 := Lib.hid (S2.out.bel hb3)
    have B3 := Lib.hid (B2.out.trans (hb3.mono B2.out.size))
    clear hb3 B2 S2
    have zg : (bs g).size ≤ 42 := by rw [bs_size, HG.out]; exact gapL_len bl
    by_cases hjt : j < n1
    · have hjl : j < ts.length := by rw [N1.out]; exact hjt
      obtain ⟨x1, x2, x3⟩ := lex_gap (g := g) H1.out (by have := HZ.out; omega) (by rw [HG.out]; exact gapL_len bl) (by rw [HG.out]; exact gapL_shut bl) (by rw [HG.out]; exact gapL_hd bl) j hjl
      obtain ⟨a0, a1, a2, a3, a4⟩ := cells_at S3.out hjl
      obtain ⟨A, hA⟩ : ∃ A : Nat, ts[j].a = (A : Int) := ⟨ts[j].a.toNat, by omega⟩
      rw [hA] at a1 x2 x3
      rw [Int.toNat_natCast] at x3
      simp only [Nat.zero_add] at a1
      have hp := S3.out.ptr (by omega)
      have hAs : A ≤ s.size := by have := HZ.out; omega
      have hd : (s.extract 0 A ++ bs g ++ s.extract A s.size).data.toList = l.take A ++ g ++ l.drop A := by
        rw [row_sign (s := s) (i := A) rfl, ← HL.out]; simp [bs]
      have hz : (s.extract 0 A ++ bs g ++ s.extract A s.size).size ≤ 8000 := by
        rw [← len_bytes, hd]
        rw [bs_size] at zg
        have := HZ.out
        simp only [List.length_append, List.length_take, List.length_drop]; omega
      have x4 : lex Vh (l.take A ++ g ++ l.drop A) = .ok (ts.take j ++ (ts.drop j).map (mov ((bs g).size : Nat))) := by rw [bs_size]; exact x3
      have KM := Lib.hid (fun w => lexK (s := s.extract 0 A ++ bs g ++ s.extract A s.size) (L := ts.take j ++ (ts.drop j).map (mov ((bs g).size : Nat))) (n := n1) (E := 0) (A := 0) w hd x4 rfl (by rw [List.length_append, List.length_take, List.length_map, List.length_drop, N1.out]; omega) rfl rfl (by omega))
      have e1 : decide ((s.size : Int) < (A : Int)) = false := decide_eq_false (by omega)
      have e2 : ¬ (s.size : Int) < (A : Int) := by omega
      have e3 : ¬ (A : Int) < 0 := by omega
      have hjz : (j : Int) < (n1 : Int) := by omega
      have y1 : (s.extract 0 A).size ≤ 8000 := by rw [ByteArray.size_extract]; omega
      have y2 : (s.extract A s.size).size ≤ 8000 := by rw [ByteArray.size_extract]; omega
      have y3 : (s.extract 0 A ++ bs g).size ≤ 16000 := by rw [ByteArray.size_append]; omega
      have hadd1 : ∀ W, (Op.stringOp .add (s.extract 0 A) (bs g)).run Tryd.prog W = .ok (.string (s.extract 0 A ++ bs g)) W := fun W => run_string_add_sum W _ _ (by omega)
      have hadd2 : ∀ W, (Op.stringOp .add (s.extract 0 A ++ bs g) (s.extract A s.size)).run Tryd.prog W = .ok (.string (s.extract 0 A ++ bs g ++ s.extract A s.size)) W := fun W => run_string_add_sum W _ _ (by omega)
      subst hp
      clear x1 x2 x3 x4 a0 a2 a3 a4 hA hd hz hjl
      go_wp2_with fail
      go_region_held3 (fun w' => True) (trivial) (first | (go_at_call 11; refine (KM.out _).mono ?_; rintro _ w4 ⟨q4, b4, cap4, rfl, s4, hc4, hb4⟩))
      have hb5 : RowKit.Below w3.heap.size w3 w4 := ((Below.refl w3.heap.size w3).drew).trans hb4
      have S4 := Lib.hid (S3.out.bel hb5)
      have U4 := Lib.hid s4
      have B4 := Lib.hid (B3.out.trans (hb5.mono B3.out.size))
      clear hb4 hb5 s4 B3 S3 hadd1 hadd2
      have hp4 := U4.out.ptr (by omega)
      subst hp4
      have hcj2 : ¬ cap2 = j := by omega
      have hcj4 : ¬ cap4 = j := by omega
      have KA : Hid (∀ p : Bw w4, Calls Tryd.prog 13 #[.slice (some ⟨b2, 0, none⟩) j cap2, .slice (some ⟨b4, 0, none⟩) j cap4, .int .i64 0] p.w' fun e w' => e = .returned (.bool true) ∧ RowKit.Below p.w'.heap.size p.w' w') := fun p =>
        same_yes (ts.take j) (ts.take j) 0 (some ⟨b2, 0, none⟩) (some ⟨b4, 0, none⟩) b2 0 cap2 j b4 0 cap4 j p.w' ((S4.out.bel p.h).take hjn) (by
          have h := (U4.out.bel p.h).take hjn
          rwa [List.take_left' (by rw [List.length_take, N1.out]; omega)] at h) (by omega) (fun t ht => TA.out t (List.mem_of_mem_take ht)) (mov_zero _)
      have KB : Hid (∀ p : Bw w4, Calls Tryd.prog 13 #[.slice (some ⟨b2, j * 5, none⟩) (n1 - j) (cap2 - j), .slice (some ⟨b4, j * 5, none⟩) (n1 - j) (cap4 - j), .int .i64 (bs g).size] p.w' fun e w' => e = .returned (.bool true) ∧ RowKit.Below p.w'.heap.size p.w' w') := fun p =>
        same_yes (ts.drop j) ((ts.drop j).map (mov ((bs g).size : Nat))) ((bs g).size : Nat) (some ⟨b2, j * 5, none⟩) (some ⟨b4, j * 5, none⟩) b2 (j * 5) (cap2 - j) (n1 - j) b4 (j * 5) (cap4 - j) (n1 - j) p.w' (by
          have h := (S4.out.bel p.h).drop hjn (q' := some ⟨b2, j * 5, none⟩) (fun _ => by rw [Nat.zero_add])
          rwa [Nat.zero_add] at h) (by
          have h := (U4.out.bel p.h).drop hjn (q' := some ⟨b4, j * 5, none⟩) (fun _ => by rw [Nat.zero_add])
          rw [List.drop_left' (by rw [List.length_take, N1.out]; omega)] at h
          rwa [Nat.zero_add] at h) (by omega) (fun t ht => TA.out t (List.mem_of_mem_drop ht)) rfl
      go_wp2_with fail
      refine wp_region_bw mixed (by kernel_rfl) ?_
      repeat (go_big_quiet_step ((first | (with_reducible refine Calls.bw_of (KA.out _)) | (with_reducible refine Calls.bw_of (KB.out _)))))
      refine wpQuiet_nil ?_
      intro W HW
      replace HW := bw_out HW
      go_wp2_with fail
      go_ret
      exact ⟨rfl, B4.out.trans (HW.mono B4.out.size)⟩
    · have hjn1 : j = n1 := by omega
      subst hjn1
      have x3 := lex_gap_end (g := g) H1.out (by have := HZ.out; omega) (by rw [HG.out]; exact gapL_len bl) (by rw [HG.out]; exact gapL_shut bl)
      have e2 : ¬ (s.size : Int) < (s.size : Int) := by omega
      have e3 : ¬ (s.size : Int) < 0 := by omega
      have hjz : ¬ (j : Int) < (j : Int) := by omega
      have E1 : s.extract 0 s.size = s := by apply ByteArray.ext; apply Array.ext'; simp
      have E2 : s.extract s.size s.size = ⟨#[]⟩ := by apply ByteArray.ext; apply Array.ext'; simp
      obtain ⟨G, hG⟩ : ∃ G, G = (⟨#[10]⟩ : ByteArray) ++ bs g := ⟨_, rfl⟩
      have hGd : G.data.toList = 10 :: g := by rw [hG]; simp [bs]
      have zG : G.size ≤ 43 := by rw [← len_bytes, hGd, List.length_cons]; rw [bs_size] at zg; omega
      have hd : (s ++ G).data.toList = l ++ 10 :: g := by
        rw [← HL.out]; simp [hGd]
      have hz : (s ++ G).size ≤ 8000 := by
        rw [← len_bytes, hd]
        rw [bs_size] at zg
        have := HZ.out
        simp only [List.length_append, List.length_cons]; omega
      have KM := Lib.hid (fun w => lexK (s := s ++ G) (L := ts) (n := j) (E := 0) (A := 0) w hd x3 rfl N1.out rfl rfl (by omega))
      have hadd1 : ∀ W, (Op.stringOp .add s G).run Tryd.prog W = .ok (.string (s ++ G)) W := fun W => run_string_add_sum W _ _ (by omega)
      have eE : s ++ G ++ ⟨#[]⟩ = s ++ G := by apply ByteArray.ext; apply Array.ext'; simp
      have hadd2 : ∀ W, (Op.stringOp .add (s ++ G) ⟨#[]⟩).run Tryd.prog W = .ok (.string (s ++ G)) W := fun W => by
        have h := run_string_add_sum (P := Tryd.prog) W (s ++ G) ⟨#[]⟩ (by have : (⟨#[]⟩ : ByteArray).size = 0 := rfl; omega)
        rwa [eE] at h
      have hadd3 : ∀ W, (Op.stringOp .add (s ++ G) ByteArray.empty).run Tryd.prog W = .ok (.string (s ++ G)) W := hadd2
      clear eE
      clear hd hz hGd x3
      go_wp2_with fail
      rw [← hG]
      clear hG
      go_region_held3 (fun w' => True) (trivial) (first | (go_at_call 11; refine (KM.out _).mono ?_; rintro _ w4 ⟨q4, b4, cap4, rfl, s4, hc4, hb4⟩))
      have hb5 : RowKit.Below w3.heap.size w3 w4 := ((Below.refl w3.heap.size w3).drew).trans hb4
      have S4 := Lib.hid (S3.out.bel hb5)
      have U4 := Lib.hid s4
      have B4 := Lib.hid (B3.out.trans (hb5.mono B3.out.size))
      clear hb4 hb5 s4 B3 S3 hadd1 hadd2 hadd3
      have KA : Hid (∀ (p : Bw w4) (c1 c2 : Nat), Calls Tryd.prog 13 #[.slice q2 j c1, .slice q4 j c2, .int .i64 0] p.w' fun e w' => e = .returned (.bool true) ∧ RowKit.Below p.w'.heap.size p.w' w') := fun p c1 c2 =>
        same_yes ts ts 0 q2 q4 b2 0 c1 j b4 0 c2 j p.w' (S4.out.bel p.h) (U4.out.bel p.h) (by omega) TA.out (mov_zero _)
      have KB : Hid (∀ (p : Bw w4) (P1 P2 : Option Addr) (c1 c2 : Nat), Calls Tryd.prog 13 #[.slice P1 0 c1, .slice P2 0 c2, .int .i64 G.size] p.w' fun e w' => e = .returned (.bool true) ∧ RowKit.Below p.w'.heap.size p.w' w') := fun p P1 P2 c1 c2 =>
        same_yes [] [] (G.size : Nat) P1 P2 0 0 c1 0 0 0 c2 0 p.w' (SlT.nil _ _) (SlT.nil _ _) (by omega) (fun t ht => by cases ht) rfl
      by_cases z2 : cap2 = j <;> by_cases z4 : cap4 = j
      all_goals
        go_wp2_with fail
        refine wp_region_bw mixed (by kernel_rfl) ?_
        repeat (go_big_quiet_step ((first | (with_reducible refine Calls.bw_of (KA.out _ _ _)) | (with_reducible refine Calls.bw_of (KB.out _ _ _ _ _)))))
        refine wpQuiet_nil ?_
        intro W HW
        replace HW := bw_out HW
        go_wp2_with fail
        go_ret
        exact ⟨rfl, B4.out.trans (HW.mono B4.out.size)⟩
  · rw [if_neg hneg] at hj
    go_wp2_with fail
    rw [← hj]
    have hjn : j ≤ n1 := by omega
    clear hj hrr hr hneg
    refine (KG.out _ B2.out).mono ?_
    rintro _ w3 ⟨rfl, hb3⟩
    have S3 := Lib.hid (S2.out.bel hb3)
    have B3 := Lib.hid (B2.out.trans (hb3.mono B2.out.size))
    clear hb3 B2 S2
    have zg : (bs g).size ≤ 42 := by rw [bs_size, HG.out]; exact gapL_len bl
    by_cases hjt : j < n1
    · have hjl : j < ts.length := by rw [N1.out]; exact hjt
      obtain ⟨x1, x2, x3⟩ := lex_gap (g := g) H1.out (by have := HZ.out; omega) (by rw [HG.out]; exact gapL_len bl) (by rw [HG.out]; exact gapL_shut bl) (by rw [HG.out]; exact gapL_hd bl) j hjl
      obtain ⟨a0, a1, a2, a3, a4⟩ := cells_at S3.out hjl
      obtain ⟨A, hA⟩ : ∃ A : Nat, ts[j].a = (A : Int) := ⟨ts[j].a.toNat, by omega⟩
      rw [hA] at a1 x2 x3
      rw [Int.toNat_natCast] at x3
      simp only [Nat.zero_add] at a1
      have hp := S3.out.ptr (by omega)
      have hAs : A ≤ s.size := by have := HZ.out; omega
      have hd : (s.extract 0 A ++ bs g ++ s.extract A s.size).data.toList = l.take A ++ g ++ l.drop A := by
        rw [row_sign (s := s) (i := A) rfl, ← HL.out]; simp [bs]
      have hz : (s.extract 0 A ++ bs g ++ s.extract A s.size).size ≤ 8000 := by
        rw [← len_bytes, hd]
        rw [bs_size] at zg
        have := HZ.out
        simp only [List.length_append, List.length_take, List.length_drop]; omega
      have x4 : lex Vh (l.take A ++ g ++ l.drop A) = .ok (ts.take j ++ (ts.drop j).map (mov ((bs g).size : Nat))) := by rw [bs_size]; exact x3
      have KM := Lib.hid (fun w => lexK (s := s.extract 0 A ++ bs g ++ s.extract A s.size) (L := ts.take j ++ (ts.drop j).map (mov ((bs g).size : Nat))) (n := n1) (E := 0) (A := 0) w hd x4 rfl (by rw [List.length_append, List.length_take, List.length_map, List.length_drop, N1.out]; omega) rfl rfl (by omega))
      have e1 : decide ((s.size : Int) < (A : Int)) = false := decide_eq_false (by omega)
      have e2 : ¬ (s.size : Int) < (A : Int) := by omega
      have e3 : ¬ (A : Int) < 0 := by omega
      have hjz : (j : Int) < (n1 : Int) := by omega
      have y1 : (s.extract 0 A).size ≤ 8000 := by rw [ByteArray.size_extract]; omega
      have y2 : (s.extract A s.size).size ≤ 8000 := by rw [ByteArray.size_extract]; omega
      have y3 : (s.extract 0 A ++ bs g).size ≤ 16000 := by rw [ByteArray.size_append]; omega
      have hadd1 : ∀ W, (Op.stringOp .add (s.extract 0 A) (bs g)).run Tryd.prog W = .ok (.string (s.extract 0 A ++ bs g)) W := fun W => run_string_add_sum W _ _ (by omega)
      have hadd2 : ∀ W, (Op.stringOp .add (s.extract 0 A ++ bs g) (s.extract A s.size)).run Tryd.prog W = .ok (.string (s.extract 0 A ++ bs g ++ s.extract A s.size)) W := fun W => run_string_add_sum W _ _ (by omega)
      subst hp
      clear x1 x2 x3 x4 a0 a2 a3 a4 hA hd hz hjl
      go_wp2_with fail
      go_region_held3 (fun w' => True) (trivial) (first | (go_at_call 11; refine (KM.out _).mono ?_; rintro _ w4 ⟨q4, b4, cap4, rfl, s4, hc4, hb4⟩))
      have hb5 : RowKit.Below w3.heap.size w3 w4 := ((Below.refl w3.heap.size w3).drew).trans hb4
      have S4 := Lib.hid (S3.out.bel hb5)
      have U4 := Lib.hid s4
      have B4 := Lib.hid (B3.out.trans (hb5.mono B3.out.size))
      clear hb4 hb5 s4 B3 S3 hadd1 hadd2
      have hp4 := U4.out.ptr (by omega)
      subst hp4
      have hcj2 : ¬ cap2 = j := by omega
      have hcj4 : ¬ cap4 = j := by omega
      have KA : Hid (∀ p : Bw w4, Calls Tryd.prog 13 #[.slice (some ⟨b2, 0, none⟩) j cap2, .slice (some ⟨b4, 0, none⟩) j cap4, .int .i64 0] p.w' fun e w' => e = .returned (.bool true) ∧ RowKit.Below p.w'.heap.size p.w' w') := fun p =>
        same_yes (ts.take j) (ts.take j) 0 (some ⟨b2, 0, none⟩) (some ⟨b4, 0, none⟩) b2 0 cap2 j b4 0 cap4 j p.w' ((S4.out.bel p.h).take hjn) (by
          have h := (U4.out.bel p.h).take hjn
          rwa [List.take_left' (by rw [List.length_take, N1.out]; omega)] at h) (by omega) (fun t ht => TA.out t (List.mem_of_mem_take ht)) (mov_zero _)
      have KB : Hid (∀ p : Bw w4, Calls Tryd.prog 13 #[.slice (some ⟨b2, j * 5, none⟩) (n1 - j) (cap2 - j), .slice (some ⟨b4, j * 5, none⟩) (n1 - j) (cap4 - j), .int .i64 (bs g).size] p.w' fun e w' => e = .returned (.bool true) ∧ RowKit.Below p.w'.heap.size p.w' w') := fun p =>
        same_yes (ts.drop j) ((ts.drop j).map (mov ((bs g).size : Nat))) ((bs g).size : Nat) (some ⟨b2, j * 5, none⟩) (some ⟨b4, j * 5, none⟩) b2 (j * 5) (cap2 - j) (n1 - j) b4 (j * 5) (cap4 - j) (n1 - j) p.w' (by
          have h := (S4.out.bel p.h).drop hjn (q' := some ⟨b2, j * 5, none⟩) (fun _ => by rw [Nat.zero_add])
          rwa [Nat.zero_add] at h) (by
          have h := (U4.out.bel p.h).drop hjn (q' := some ⟨b4, j * 5, none⟩) (fun _ => by rw [Nat.zero_add])
          rw [List.drop_left' (by rw [List.length_take, N1.out]; omega)] at h
          rwa [Nat.zero_add] at h) (by omega) (fun t ht => TA.out t (List.mem_of_mem_drop ht)) rfl
      go_wp2_with fail
      refine wp_region_bw mixed (by kernel_rfl) ?_
      repeat (go_big_quiet_step ((first | (with_reducible refine Calls.bw_of (KA.out _)) | (with_reducible refine Calls.bw_of (KB.out _)))))
      refine wpQuiet_nil ?_
      intro W HW
      replace HW := bw_out HW
      go_wp2_with fail
      go_ret
      exact ⟨rfl, B4.out.trans (HW.mono B4.out.size)⟩
    · have hjn1 : j = n1 := by omega
      subst hjn1
      have x3 := lex_gap_end (g := g) H1.out (by have := HZ.out; omega) (by rw [HG.out]; exact gapL_len bl) (by rw [HG.out]; exact gapL_shut bl)
      have e2 : ¬ (s.size : Int) < (s.size : Int) := by omega
      have e3 : ¬ (s.size : Int) < 0 := by omega
      have hjz : ¬ (j : Int) < (j : Int) := by omega
      have E1 : s.extract 0 s.size = s := by apply ByteArray.ext; apply Array.ext'; simp
      have E2 : s.extract s.size s.size = ⟨#[]⟩ := by apply ByteArray.ext; apply Array.ext'; simp
      obtain ⟨G, hG⟩ : ∃ G, G = (⟨#[10]⟩ : ByteArray) ++ bs g := ⟨_, rfl⟩
      have hGd : G.data.toList = 10 :: g := by rw [hG]; simp [bs]
      have zG : G.size ≤ 43 := by rw [← len_bytes, hGd, List.length_cons]; rw [bs_size] at zg; omega
      have hd : (s ++ G).data.toList = l ++ 10 :: g := by
        rw [← HL.out]; simp [hGd]
      have hz : (s ++ G).size ≤ 8000 := by
        rw [← len_bytes, hd]
        rw [bs_size] at zg
        have := HZ.out
        simp only [List.length_append, List.length_cons]; omega
      have KM := Lib.hid (fun w => lexK (s := s ++ G) (L := ts) (n := j) (E := 0) (A := 0) w hd x3 rfl N1.out rfl rfl (by omega))
      have hadd1 : ∀ W, (Op.stringOp .add s G).run Tryd.prog W = .ok (.string (s ++ G)) W := fun W => run_string_add_sum W _ _ (by omega)
      have eE : s ++ G ++ ⟨#[]⟩ = s ++ G := by apply ByteArray.ext; apply Array.ext'; simp
      have hadd2 : ∀ W, (Op.stringOp .add (s ++ G) ⟨#[]⟩).run Tryd.prog W = .ok (.string (s ++ G)) W := fun W => by
        have h := run_string_add_sum (P := Tryd.prog) W (s ++ G) ⟨#[]⟩ (by have : (⟨#[]⟩ : ByteArray).size = 0 := rfl; omega)
        rwa [eE] at h
      have hadd3 : ∀ W, (Op.stringOp .add (s ++ G) ByteArray.empty).run Tryd.prog W = .ok (.string (s ++ G)) W := hadd2
      clear eE
      clear hd hz hGd x3
      go_wp2_with fail
      rw [← hG]
      clear hG
      go_region_held3 (fun w' => True) (trivial) (first | (go_at_call 11; refine (KM.out _).mono ?_; rintro _ w4 ⟨q4, b4, cap4, rfl, s4, hc4, hb4⟩))
      have hb5 : RowKit.Below w3.heap.size w3 w4 := ((Below.refl w3.heap.size w3).drew).trans hb4
      have S4 := Lib.hid (S3.out.bel hb5)
      have U4 := Lib.hid s4
      have B4 := Lib.hid (B3.out.trans (hb5.mono B3.out.size))
      clear hb4 hb5 s4 B3 S3 hadd1 hadd2 hadd3
      have KA : Hid (∀ (p : Bw w4) (c1 c2 : Nat), Calls Tryd.prog 13 #[.slice q2 j c1, .slice q4 j c2, .int .i64 0] p.w' fun e w' => e = .returned (.bool true) ∧ RowKit.Below p.w'.heap.size p.w' w') := fun p c1 c2 =>
        same_yes ts ts 0 q2 q4 b2 0 c1 j b4 0 c2 j p.w' (S4.out.bel p.h) (U4.out.bel p.h) (by omega) TA.out (mov_zero _)
      have KB : Hid (∀ (p : Bw w4) (P1 P2 : Option Addr) (c1 c2 : Nat), Calls Tryd.prog 13 #[.slice P1 0 c1, .slice P2 0 c2, .int .i64 G.size] p.w' fun e w' => e = .returned (.bool true) ∧ RowKit.Below p.w'.heap.size p.w' w') := fun p P1 P2 c1 c2 =>
        same_yes [] [] (G.size : Nat) P1 P2 0 0 c1 0 0 0 c2 0 p.w' (SlT.nil _ _) (SlT.nil _ _) (by omega) (fun t ht => by cases ht) rfl
      by_cases z2 : cap2 = j <;> by_cases z4 : cap4 = j
      all_goals
        go_wp2_with fail
        refine wp_region_bw mixed (by kernel_rfl) ?_
        repeat (go_big_quiet_step ((first | (with_reducible refine Calls.bw_of (KA.out _ _ _)) | (with_reducible refine Calls.bw_of (KB.out _ _ _ _ _)))))
        refine wpQuiet_nil ?_
        intro W HW
        replace HW := bw_out HW
        go_wp2_with fail
        go_ret
        exact ⟨rfl, B4.out.trans (HW.mono B4.out.size)⟩
set_option maxRecDepth 100000 in
set_option maxHeartbeats 2000000 in
theorem gaps_up (s : ByteArray) (kk : Int) (v : Value) (w : World) (l : List UInt8) (hl : s.data.toList = l) (hs : s.size ≤ 281474976710656) (e1 : Int) (h1 : (lex Vh l).e = e1) (h : e1 ≠ 0 ∨ (e1 = 0 ∧ 7900 < s.size)) :
    Calls Tryd.prog 5 #[.string s, .int .i64 kk, v] w fun e w' => e = .returned (.bool true) ∧ RowKit.Below w.heap.size w w' := by
  have K1 := Lib.hid (fun w => lexK (s := s) w hl rfl rfl rfl h1 rfl hs)
  generalize (lex Vh l).tk = L1 at *
  generalize L1.length = n1 at *
  clear h1 hl
  rcases h with h | ⟨rfl, h⟩
  all_goals
    first
      | have q1 : (e1 != 0) = true := by simpa using h
      | have q3 : decide ((7900 : Int) < (s.size : Int)) = true := decide_eq_true (by omega)
    go_enter Tryd.func5, Tryd.ntmps5
    go_wp2_with fail
    refine (head_any _).mono ?_
    rintro _ w1 ⟨rfl, hb⟩
    have B1 := Lib.hid hb
    clear hb
    go_wp2_with fail
    refine (K1.out _).mono ?_
    rintro _ w2 ⟨q2, b2, cap2, rfl, s2, hc2, hb2⟩
    have B2 := Lib.hid (B1.out.trans (hb2.mono B1.out.size))
    clear hb2 B1 s2
    go_wp2_with fail
    go_ret
    exact ⟨rfl, B2.out⟩
theorem gaps_law (s : ByteArray) (kk : Int) (p : Option Addr) (b off len cap : Nat) (bl : List UInt8) (w : World) (hs : s.size ≤ 281474976710656) (hk : -9223372036854775808 ≤ kk ∧ kk ≤ 9223372036854775807) (hB : SlB w p b off len bl) (hcap : len ≤ cap) :
    Calls Tryd.prog 5 #[.string s, .int .i64 kk, .slice p len cap] w fun e w' => e = .returned (.bool true) ∧ RowKit.Below w.heap.size w w' := by
  cases h1 : lex Vh s.data.toList with
  | er E a =>
    exact gaps_up s kk _ w _ rfl hs E (by rw [h1]; rfl) (Or.inl (lex_er h1).1)
  | ok ts =>
    by_cases h3 : 7900 < s.size
    · exact gaps_up s kk _ w _ rfl hs 0 (by rw [h1]; rfl) (Or.inr ⟨rfl, h3⟩)
    exact gaps_main s kk p b off len cap bl w _ ts rfl (by omega) h1 hB hcap hk
end Go.Proofs.YtoaeceeookknnaaDoor
