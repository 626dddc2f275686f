/-
  The contract of skipGaps.
-/
import Derived.Test.YtoaeceeookknnaaDoorLRead
import Derived.StillTailTactics
namespace Go.Proofs.YtoaeceeookknnaaDoor
open Go.RowKit Lx

theorem gp_line : ∀ l : List UInt8, gp true l = (l.takeWhile lin).length + gp false (l.drop (l.takeWhile lin).length)
  | [] => rfl
  | c :: l => by
    by_cases h : c.toNat = 10
    · have e : lin c = false := by unfold lin; simp [h]
      rw [List.takeWhile_cons, e]
      simp only [gp, Bool.false_eq_true, if_false, List.length_nil, List.drop_zero]
      have e2 : blk c = true := by unfold blk; simp [h]
      rw [if_pos h, if_neg (by omega), if_pos e2]; omega
    · have e : lin c = true := by unfold lin; simp [h]
      rw [List.takeWhile_cons, e]
      simp only [gp, if_true, List.length_cons, List.drop_succ_cons]
      rw [if_neg h, gp_line l]; omega
theorem drop_get {l : List UInt8} {j : Nat} (h : j < l.length) : l.drop j = l.getD j 0 :: l.drop (j + 1) := by
  rw [List.drop_eq_getElem_cons h, List.getD_eq_getElem?_getD, List.getElem?_eq_getElem h]; rfl
theorem gp_blank {l : List UInt8} {j : Nat} (h : j < l.length) (hb : blk (l.getD j 0) = true) : gp false (l.drop j) = 1 + gp false (l.drop (j + 1)) := by
  rw [drop_get h]; simp only [gp]
  rw [if_neg (blk_lin_wrd _ hb).2.2.2.2.2, if_pos hb]
theorem gp_hash {l : List UInt8} {j : Nat} (h : j < l.length) (hb : (l.getD j 0).toNat = 35) : gp false (l.drop j) = ((l.drop j).takeWhile lin).length + gp false (l.drop (j + ((l.drop j).takeWhile lin).length)) ∧ 1 ≤ ((l.drop j).takeWhile lin).length := by
  have e : gp false (l.drop j) = gp true (l.drop j) := by
    rw [drop_get h]; simp only [gp]
    rw [if_pos hb, if_neg (by rw [hb]; decide)]
  rw [e, gp_line, List.drop_drop]
  refine ⟨rfl, ?_⟩
  rw [drop_get h, List.takeWhile_cons]
  have : lin (l.getD j 0) = true := by unfold lin; rw [hb]; rfl
  rw [this]; simp
theorem gp_none {l : List UInt8} {j : Nat} (h : j < l.length) (hb : blk (l.getD j 0) = false) (hh : (l.getD j 0).toNat ≠ 35) : gp false (l.drop j) = 0 := by
  rw [drop_get h]; simp only [gp]
  rw [if_neg hh, if_neg (by rw [hb]; simp)]
def ptrV (b : Nat) : Value := .pointer (some ⟨b, 0, none⟩)
set_option maxRecDepth 100000 in
set_option maxHeartbeats 1000000 in
theorem skip_any (s : ByteArray) (i b : Nat) (w : World) (hA : At2 w b (.string s) (.int .i64 i)) (hi : i ≤ s.size) (hs : s.size ≤ 281474976710656) :
    Calls Tryd.prog 27 #[.pointer (some ⟨b, 0, none⟩)] w fun e w' => e = .returned (.tuple #[]) ∧ Kept b w w' ∧ At2 w' b (.string s) (.int .i64 (i + gp false (s.data.toList.drop i) : Nat)) := by
  obtain ⟨l, hl⟩ : ∃ l, l = s.data.toList := ⟨_, rfl⟩
  have hsz : s.size = l.length := by rw [hl]; simp
  have hget : Hid (∀ i (h : i < s.size), s[i] = l.getD i 0) := fun i h => by rw [hl]; exact get_list s i h
  have KR := Lib.hid (fun (j : Nat) (w : World) (hA : At2 w b (.string s) (.int .i64 j)) (hj : j ≤ s.size) => row_any 35 lin says_line s j b w hA hj hs)
  rw [← hl] at KR ⊢
  obtain ⟨G, hG⟩ : ∃ G, G = i + gp false (l.drop i) := ⟨_, rfl⟩
  rw [← hG]
  have HG := Lib.hid hG
  have HA := Lib.hid hA
  clear hA hl hG
  go_enter Tryd.func27, Tryd.ntmps27
  go_wp2_with fail
  go_loopg [5] s.size (fun g _s5 wr => ∃ j : Nat, j ≤ s.size ∧ s.size - j ≤ g ∧ Hid (Kept b w wr ∧ At2 wr b (.string s) (.int .i64 j) ∧ j + gp false (l.drop j) = G))
  case atStart => exact ⟨i, hi, by omega, Kept.refl _ _, HA.out, HG.out.symm⟩
  case round =>
    obtain ⟨j, hj, hjg, HI⟩ := hrel
    have c0 := HI.out.2.1.c0
    have c1 := HI.out.2.1.c1
    have f1 := HI.out.2.1.f1
    have hbw := HI.out.2.1.lt
    by_cases hlt : j < s.size
    · have hltz : (j : Int) < (s.size : Int) := by omega
      have hjl : j < l.length := by omega
      have hc := hget.out j hlt
      by_cases h32 : s[j].toNat = 32
      · have hB : Hid (blk (l.getD j 0) = true) := by show _ = true; rw [← hc]; unfold blk; simp [h32]
        have HG2 : Hid (j + 1 + gp false (l.drop (j + 1)) = G) := by have := HI.out.2.2; rw [gp_blank hjl hB.out] at this; show _ = _; omega
        have e32 : ((s[j].toNat : Int) == 32) = true := by simp; omega
        have hwr : wrap64 ((j : Int) + 1) = ((j + 1 : Nat) : Int) := by unfold wrap64; omega
        clear hB hc h32
        go_wp2_with fail
        go_quiet (fail)
        go_wp2_with fail
        go_quiet (fail)
        go_wp2_with fail
        go_roundg (s.size - (j + 1))
        case measure => omega
        case rel => exact ⟨j + 1, by omega, by omega, (HI.out.1.bel (below_drewN (Below.refl _ _) _)).setCell 1 none _, (HI.out.2.1.bel (below_drewN (Below.refl _ _) _)).set _, HG2.out⟩
      by_cases h9 : s[j].toNat = 9
      · have hB : Hid (blk (l.getD j 0) = true) := by show _ = true; rw [← hc]; unfold blk; simp [h9]
        have HG2 : Hid (j + 1 + gp false (l.drop (j + 1)) = G) := by have := HI.out.2.2; rw [gp_blank hjl hB.out] at this; show _ = _; omega
        have e32 : ((s[j].toNat : Int) == 32) = false := by simp; omega
        have e9 : ((s[j].toNat : Int) == 9) = true := by simp; omega
        have hwr : wrap64 ((j : Int) + 1) = ((j + 1 : Nat) : Int) := by unfold wrap64; omega
        clear hB hc h9
        go_wp2_with fail
        go_quiet (fail)
        go_wp2_with fail
        go_quiet (fail)
        go_wp2_with fail
        go_roundg (s.size - (j + 1))
        case measure => omega
        case rel => exact ⟨j + 1, by omega, by omega, (HI.out.1.bel (below_drewN (Below.refl _ _) _)).setCell 1 none _, (HI.out.2.1.bel (below_drewN (Below.refl _ _) _)).set _, HG2.out⟩
      by_cases h10 : s[j].toNat = 10
      · have hB : Hid (blk (l.getD j 0) = true) := by show _ = true; rw [← hc]; unfold blk; simp [h10]
        have HG2 : Hid (j + 1 + gp false (l.drop (j + 1)) = G) := by have := HI.out.2.2; rw [gp_blank hjl hB.out] at this; show _ = _; omega
        have e32 : ((s[j].toNat : Int) == 32) = false := by simp; omega
        have e9 : ((s[j].toNat : Int) == 9) = false := by simp; omega
        have e10 : ((s[j].toNat : Int) == 10) = true := by simp; omega
        have hwr : wrap64 ((j : Int) + 1) = ((j + 1 : Nat) : Int) := by unfold wrap64; omega
        clear hB hc h10
        go_wp2_with fail
        go_quiet (fail)
        go_wp2_with fail
        go_quiet (fail)
        go_wp2_with fail
        go_roundg (s.size - (j + 1))
        case measure => omega
        case rel => exact ⟨j + 1, by omega, by omega, (HI.out.1.bel (below_drewN (Below.refl _ _) _)).setCell 1 none _, (HI.out.2.1.bel (below_drewN (Below.refl _ _) _)).set _, HG2.out⟩
      by_cases h13 : s[j].toNat = 13
      · have hB : Hid (blk (l.getD j 0) = true) := by show _ = true; rw [← hc]; unfold blk; simp [h13]
        have HG2 : Hid (j + 1 + gp false (l.drop (j + 1)) = G) := by have := HI.out.2.2; rw [gp_blank hjl hB.out] at this; show _ = _; omega
        have e32 : ((s[j].toNat : Int) == 32) = false := by simp; omega
        have e9 : ((s[j].toNat : Int) == 9) = false := by simp; omega
        have e10 : ((s[j].toNat : Int) == 10) = false := by simp; omega
        have e13 : ((s[j].toNat : Int) == 13) = true := by simp; omega
        have hwr : wrap64 ((j : Int) + 1) = ((j + 1 : Nat) : Int) := by unfold wrap64; omega
        clear hB hc h13
        go_wp2_with fail
        go_quiet (fail)
        go_wp2_with fail
        go_quiet (fail)
        go_wp2_with fail
        go_roundg (s.size - (j + 1))
        case measure => omega
        case rel => exact ⟨j + 1, by omega, by omega, (HI.out.1.bel (below_drewN (Below.refl _ _) _)).setCell 1 none _, (HI.out.2.1.bel (below_drewN (Below.refl _ _) _)).set _, HG2.out⟩
      have e0 : blk (l.getD j 0) = false := by rw [← hc]; unfold blk; simp [h32, h9, h10, h13]
      have e32 : ((s[j].toNat : Int) == 32) = false := by simp; omega
      have e9 : ((s[j].toNat : Int) == 9) = false := by simp; omega
      have e10 : ((s[j].toNat : Int) == 10) = false := by simp; omega
      have e13 : ((s[j].toNat : Int) == 13) = false := by simp; omega
      by_cases h35 : s[j].toNat = 35
      · have e35 : ((s[j].toNat : Int) == 35) = true := by simp; omega
        obtain ⟨g1, g2⟩ := gp_hash hjl (by rw [← hc]; exact h35)
        have KK := Lib.hid (fun w h => KR.out j w h hj)
        have hm : ((l.drop j).takeWhile lin).length ≤ l.length - j := by have := tw_pre (p := lin) (l.drop j); rwa [List.length_drop] at this
        obtain ⟨m, hm0⟩ : ∃ m, m = ((l.drop j).takeWhile lin).length := ⟨_, rfl⟩
        obtain ⟨r, hr0⟩ : ∃ r, r = (l.drop j).takeWhile lin := ⟨_, rfl⟩
        rw [← hr0] at KK g1 g2 hm hm0
        have hrs : (bs r).size = m := by rw [bs_size, hm0]
        rw [← hm0] at g1 g2 hm
        have HG2 : Hid (j + m + gp false (l.drop (j + m)) = G) := by have := HI.out.2.2; rw [g1] at this; show _ = _; omega
        clear g1 hm0 hr0 hc h35 e0
        go_wp2_with fail
        go_quiet (fail)
        go_wp2_with fail
        go_quiet (fail)
        go_wp2_with fail
        go_region_with (go_at_call 34; refine (KK.out _ (HI.out.2.1.bel (by repeat' (first | (with_reducible refine Below.setCell ?_ ?_ _) | (with_reducible refine Below.alloc ?_ ?_ _) | (with_reducible refine Below.drew ?_) | (with_reducible refine below_drewN ?_ _) | (with_reducible exact Below.refl _ _) | omega | (simp; done) | (simp; omega))))).mono ?_; rintro _ _ ⟨rfl, n, rfl⟩)
        all_goals
          rw [show IntKind.i64.wrap ((j : Int) + (m : Int)) = ((j + m : Nat) : Int) by rw [IntKind.wrap_i64]; omega]
          go_wp2_with fail
          go_roundg (s.size - (j + m))
          case measure => omega
          case rel => exact ⟨j + m, by omega, by omega, (HI.out.1.bel (below_drewN (Below.refl _ _) _)).setCell 1 none _, (HI.out.2.1.bel (below_drewN (Below.refl _ _) _)).set _, HG2.out⟩
      · have e35 : ((s[j].toNat : Int) == 35) = false := by simp; omega
        have HG2 : Hid (j = G) := by have := HI.out.2.2; rw [gp_none hjl e0 (by rw [← hc]; exact h35)] at this; exact this
        clear e0 hc
        go_wp2_with fail
        go_quiet (fail)
        go_wp2_with fail
        go_quiet (fail)
        go_wp2_with fail
        refine bodyPost_ret (v := .tuple #[]) (results_none rfl _ _ _) rfl ⟨rfl, ?_, ?_⟩
        · exact HI.out.1.bel (below_drewN (Below.refl _ _) _)
        · rw [← HG2.out]; exact HI.out.2.1.bel (below_drewN (Below.refl _ _) _)
    · have hltz : ¬ (j : Int) < (s.size : Int) := by omega
      have HG2 : Hid (j = G) := by have := HI.out.2.2; rw [List.drop_eq_nil_of_le (by omega)] at this; exact this
      go_wp2_with fail
      go_quiet (fail)
      go_wp2_with fail
      go_end0
      exact ⟨rfl, HI.out.1.bel (below_drewN (Below.refl _ _) _), by rw [← HG2.out]; exact HI.out.2.1.bel (below_drewN (Below.refl _ _) _)⟩
end Go.Proofs.YtoaeceeookknnaaDoor
