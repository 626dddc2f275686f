/-
  The law on errors: they are in order, within the source, and at most twenty; without errors there are as many declarations as semicolons.
-/
import Derived.Test.YtedbpjcglnkjmaaGreatDoorZP
import Derived.Test.YtedbpjcglnkjmaaGreatDoorZQ
import Derived.Test.YtedbpjcglnkjmaaGreatDoorZR
namespace Go.Proofs.YtedbpjcglnkjmaaGreatDoor
open Go.RowKit Lx Pa

theorem endsN_le (l : List UInt8) : endsN l ≤ 2000 := by
  unfold endsN
  cases hx : lex Vh l with
  | er E a => show (-1 : Int) ≤ 2000; omega
  | ok ts =>
    have h1 := lex_short hx
    have h2 := List.countP_le_length (p := isT sSc) (l := ts)
    unfold semis
    show ((ts.countP (isT sSc) : Nat) : Int) ≤ 2000
    omega
theorem gat {w : World} {b : Nat} {ofs : Nat → Int} {es : List (Int × Nat)} (h : RowAt w b (es.flatMap (gV ofs))) (k : Nat) (hk : k < es.length) : w.cell? ⟨b, k * 2, none⟩ = some (.int .i64 (ofs es[k].2)) ∧ w.cell? ⟨b, k * 2 + 1, none⟩ = some (.int .i64 es[k].1) := by
  rw [List.flatMap_def] at h
  have hs : ∀ x ∈ es.map (gV ofs), x.length = 2 := fun x hx => by
    obtain ⟨y, -, rfl⟩ := List.mem_map.1 hx; rfl
  have f := flat_at (es.map (gV ofs)) k (by simpa using hk) hs
  rw [List.getElem_map] at f
  exact ⟨by have := h _ _ (f 0 _ rfl); simpa using this, by have := h _ _ (f 1 _ rfl); simpa using this⟩
set_option maxRecDepth 100000 in
set_option maxHeartbeats 6000000 in
theorem errors_law (s : ByteArray) (w : World) (hs : s.size ≤ 281474976710656) : Calls Tryz.prog 9 #[.string s] w fun e w' => e = .returned (.bool true) ∧ RowKit.Below w.heap.size w w' := by
  obtain ⟨l, hl⟩ : ∃ l, s.data.toList = l := ⟨_, rfl⟩
  have hsz : s.size = l.length := by rw [← hl, len_bytes]
  by_cases h4 : 4000 < s.size
  · have d1 : decide ((4000 : Int) < (s.size : Int)) = true := decide_eq_true (by omega)
    clear hsz hl
    go_enter Tryz.func9, Tryz.ntmps9
    go_wp2_with fail
    refine (head_any _).mono ?_
    rintro _ w1 ⟨rfl, hb⟩
    have B1 := Lib.hid hb
    clear hb
    go_wp2_with fail
    go_ret
    exact ⟨rfl, B1.out⟩
  have d1 : decide ((4000 : Int) < (s.size : Int)) = false := decide_eq_false (by omega)
  have d2 : ¬ (4000 : Int) < (s.size : Int) := by omega
  obtain ⟨c, hc⟩ : ∃ c, byR l = c := ⟨_, rfl⟩
  have KP := Lib.hid (fun w => parK (s := s) (l := l) (c := c) w hl hc hs)
  have KE := Lib.hid (fun w => ends_any s l hl hs w)
  by_cases he : c.es = []
  · have hcl : Hid (((c.ds.length + c.rs.length : Nat) : Int) = endsN l) := by
      show _ = _
      obtain ⟨-, -, -, -, h⟩ := by_ok (by rw [hc]; exact he)
      rw [← hc]; exact h
    have hcn := endsN_le l
    rw [← hcl.out] at hcn KE
    have HE := Lib.hid he
    obtain ⟨nd, hnd⟩ : ∃ nd, c.ds.length = nd := ⟨_, rfl⟩
    obtain ⟨nr, hnr⟩ : ∃ nr, c.rs.length = nr := ⟨_, rfl⟩
    rw [hnd, hnr] at hcn KE
    have ND := Lib.hid hnd
    have NR := Lib.hid hnr
    have hw1 : IntKind.i64.wrap ((nd : Int) + (nr : Int)) = (nd : Int) + (nr : Int) := IntWalk.i64_in _ (by omega)
    rw [Int.natCast_add] at KE
    clear hc hl he hcl hnd hnr hsz h4
    go_enter Tryz.func9, Tryz.ntmps9
    go_wp2_with fail
    refine (head_any _).mono ?_
    rintro _ w1 ⟨rfl, hb⟩
    have B1 := Lib.hid hb
    clear hb
    go_wp2_with fail
    refine (KP.out _).mono ?_
    rintro _ v ⟨vd, vr, vg, rfl, hV, hb⟩
    obtain ⟨rfl, hd, ns, hns, hr, hn⟩ := hV.1 HE.out
    obtain ⟨q1, c1, rfl⟩ := own_slice hd
    obtain ⟨q2, c2, rfl⟩ := own_slice hr
    rw [ND.out, NR.out]
    have B2 := Lib.hid (B1.out.trans (hb.mono B1.out.size))
    clear hb hV hd hr hn hns B1
    have AX := Lib.hid (At2.new v (.slice q1 nd c1) (.slice q2 nr c2) 26)
    have B3 := Lib.hid (B2.out.trans (((Below.refl _ v).alloc (Nat.le_refl _) (.cells #[.slice q1 nd c1, .slice q2 nr c2] 26)).mono B2.out.size))
    go_wp2_with fail
    generalize v.alloc (.cells #[.slice q1 nd c1, .slice q2 nr c2] 26) = V at *
    go_loopg [22] 0 (fun g s22 wr => s22 = .int .i64 0 ∧ Hid (wr = V))
    case atStart => exact ⟨rfl, rfl⟩
    case round =>
      obtain ⟨rfl, HI⟩ := hrel
      obtain rfl := HI.out
      clear HI
      go_wp2_with fail
      refine (KE.out _).mono ?_
      rintro _ v2 ⟨rfl, hb⟩
      have A2 := AX.out.bel hb
      have x0 := A2.c0
      have x1 := A2.c1
      have B4 := Lib.hid (B3.out.trans (hb.mono B3.out.size))
      clear hb A2
      go_wp2_with fail
      go_ret
      exact ⟨rfl, B4.out⟩
  · have BE := by_errs l
    rw [hc] at BE
    obtain ⟨b1, b2, b3⟩ := BE
    have H2 := Lib.hid b2
    have H3 := Lib.hid b3
    obtain ⟨n, hn⟩ : ∃ n, c.es.length = n := ⟨_, rfl⟩
    rw [hn] at b1
    have n0 : 0 < n := by
      rw [← hn]
      exact List.length_pos_iff.2 he
    have HN := Lib.hid hn
    have HE := Lib.hid he
    have HZ := Lib.hid hsz
    have e20 : decide ((n : Int) ≤ 20) = true := decide_eq_true (by omega)
    have e00 : decide ((0 : Int) < (n : Int)) = true := decide_eq_true (by omega)
    clear hc hl he hn b2 b3 hsz h4
    go_enter Tryz.func9, Tryz.ntmps9
    go_wp2_with fail
    refine (head_any _).mono ?_
    rintro _ w1 ⟨rfl, hb⟩
    have B1 := Lib.hid hb
    clear hb
    go_wp2_with fail
    refine (KP.out _).mono ?_
    rintro _ v ⟨vd, vr, vg, rfl, hV, hb⟩
    obtain ⟨rfl, rfl, hg⟩ := hV.2 HE.out
    obtain ⟨g1, cap, rfl, -, hgl, hrow, -⟩ := own_at hg (by rw [HN.out]; exact n0)
    rw [HN.out]
    have B2 := Lib.hid (B1.out.trans (hb.mono B1.out.size))
    have RG := Lib.hid hrow
    clear hb hV hg hrow B1
    unfold nilS
    have bV := (Below.refl _ v).alloc (Nat.le_refl _) (.cells #[.slice none 0 0, .slice none 0 0] 26)
    have AX := Lib.hid (At2.new v (.slice none 0 0) (.slice none 0 0) 26)
    have RGV := Lib.hid (RG.out.of (bV.block g1 hgl))
    have B3 := Lib.hid (B2.out.trans (bV.mono B2.out.size))
    have hgV : g1 < (v.alloc (.cells #[.slice none 0 0, .slice none 0 0] 26)).heap.size := by simp; omega
    clear bV RG B2
    go_wp2_with fail
    generalize v.alloc (.cells #[.slice none 0 0, .slice none 0 0] 26) = V at *
    go_loopg [22] n (fun g s22 wr => ∃ k : Nat, s22 = .int .i64 (k : Nat) ∧ k ≤ n ∧ n - k ≤ g ∧ Hid (RowKit.Below V.heap.size V wr))
    case atStart => exact ⟨0, by first | rfl | simp, by omega, by omega, Below.refl _ _⟩
    case round =>
      obtain ⟨k, rfl, hk, hkg, BB⟩ := hrel
      have hwV := BB.out.size
      by_cases hlt : k < n
      · have hz : (k : Int) < (n : Int) := by omega
        have hkE : k < c.es.length := by rw [HN.out]; exact hlt
        have hk1 : IntKind.i64.wrap ((k : Int) + 1) = ((k + 1 : Nat) : Int) := by rw [IntWalk.i64_in _ (by omega)]; rfl
        obtain ⟨r0, r1⟩ := gat (RGV.out.of (BB.out.block g1 hgV)) k hkE
        obtain ⟨f1, f2, f3⟩ := H2.out _ (List.getElem_mem hkE)
        have HPV : Hid (0 < k → ∃ P, wr.cell? ⟨g1, (k - 1) * 2, none⟩ = some (.int .i64 P) ∧ P < ofsR l c.es[k].2) := fun h0 => by
          obtain ⟨z0, -⟩ := gat (RGV.out.of (BB.out.block g1 hgV)) (k - 1) (by omega)
          exact ⟨_, z0, List.pairwise_iff_getElem.1 H3.out (k - 1) k (by omega) hkE (by omega)⟩
        have hzz := HZ.out
        generalize ofsR l c.es[k].2 = A at *
        generalize c.es[k].1 = E at *
        have e1 : (E == 0) = false := by simpa using f1
        have e2 : decide (A < 0) = false := decide_eq_false (by omega)
        have e3 : decide ((s.size : Int) < A) = false := decide_eq_false (by omega)
        have HF : Hid (RowKit.Below V.heap.size V (wr.alloc (.cells #[.int .i64 A, .int .i64 E] 49))) := BB.out.trans (((Below.refl _ wr).alloc (Nat.le_refl _) _).mono hwV)
        have AD := At2.new wr (.int .i64 A) (.int .i64 E) 49
        have a0 := AD.c0
        have a1 := AD.c1
        clear AD f1 f2 f3 hzz
        by_cases h0 : 0 < k
        · obtain ⟨P, p0, p1⟩ := HPV.out h0
          obtain ⟨m, hm⟩ : ∃ m, k = m + 1 := ⟨k - 1, by omega⟩
          have e4 : decide ((0 : Int) < (k : Int)) = true := decide_eq_true (by omega)
          have e4' : decide (0 < k) = true := decide_eq_true h0
          have e5 : decide (A ≤ P) = false := decide_eq_false (by omega)
          have hm1 : IntKind.i64.wrap ((k : Int) - 1) = (m : Int) := by rw [IntWalk.i64_in _ (by omega)]; omega
          have hmn : (m : Int) < (n : Int) := by omega
          rw [show k - 1 = m by omega] at p0
          have q0 : (wr.alloc (.cells #[.int .i64 A, .int .i64 E] 49)).cell? ⟨g1, m * 2, none⟩ = some (.int .i64 P) := (cell_past _ _ _ (World.block_lt_of_cell? _ _ p0)).trans p0
          clear HPV h0 p1 p0 hm
          go_wp2_with fail
          go_quiet (fail)
          go_wp2_with fail
          go_roundg (n - (k + 1))
          case measure => omega
          case rel => exact ⟨k + 1, by first | rfl | simp, by omega, Nat.le_refl _, below_drewN HF.out _⟩
        · have e4 : decide ((0 : Int) < (k : Int)) = false := decide_eq_false (by omega)
          have e4' : decide (0 < k) = false := decide_eq_false h0
          clear HPV h0
          go_wp2_with fail
          go_quiet (fail)
          go_wp2_with fail
          go_roundg (n - (k + 1))
          case measure => omega
          case rel => exact ⟨k + 1, by first | rfl | simp, by omega, Nat.le_refl _, below_drewN HF.out _⟩
      · have hz : ¬ (k : Int) < (n : Int) := by omega
        have A2 := AX.out.bel BB.out
        have x0 := A2.c0
        have x1 := A2.c1
        have B4 := Lib.hid (B3.out.trans (BB.out.mono B3.out.size))
        clear A2
        go_wp2_with fail
        go_ret
        exact ⟨rfl, B4.out⟩
end Go.Proofs.YtedbpjcglnkjmaaGreatDoor
