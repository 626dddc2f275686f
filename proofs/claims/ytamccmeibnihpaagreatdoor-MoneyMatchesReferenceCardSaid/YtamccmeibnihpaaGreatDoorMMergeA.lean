/-
  The walk of slices.symMergeCmpFunc at places where the left part is one place: a binary search, then one place is carried along.
-/
import Derived.Test.YtamccmeibnihpaaGreatDoorMRotate
namespace Go.Proofs.YtamccmeibnihpaaGreatDoor
open Go.RowKit Go.Lib Go.Sort Go.Shelf Go.Proofs.YtamccmeibnihpaaGreatDoor.MSort

/-- The element at a is carried one place further. -/
theorem MSort.Carried.step {α : Type} [Inhabited α] {a i : Nat} {d d' : Array α} (h : Carried a (i + 1) d d') (hai : a ≤ i) (hs : i + 1 < d'.size) : Carried a (i + 2) d (swp d' i (i + 1)) := by
  have g := swp_get d' (i := i) (j := i + 1) (by omega) hs
  refine ⟨fun k h1 h2 => ?_, fun _ => ?_, fun k hk => ?_⟩
  · rw [g]
    by_cases e : k = i
    · subst e; rw [if_neg (by omega), if_pos rfl]; exact h.same _ (Or.inr (by omega))
    · rw [if_neg (by omega), if_neg e]; exact h.moved k h1 (by omega)
  · rw [g, if_pos (by omega)]
    exact h.at' (by omega)
  · rw [g, if_neg (by omega), if_neg (by omega)]
    exact h.same k (by omega)

theorem MSort.Carried.zero {α : Type} [Inhabited α] (a : Nat) (d : Array α) : Carried a (a + 1) d d := ⟨fun k h1 h2 => by omega, fun _ => rfl, fun _ _ => rfl⟩

variable {n : Nat}

/-- What the binary search for the place of the one on the left has found. -/
def LoA (r : Rests n) (a m i j b : Nat) (d : Array (Fin (n + 1))) : Prop := (∀ k, m ≤ k → k < i → ltR r d[k]! d[a]! = true) ∧ (∀ k, j ≤ k → k < b → ltR r d[k]! d[a]! = false)

theorem LoA.up {r : Rests n} {a m i j b h : Nat} {d : Array (Fin (n + 1))} (hT : SortedIn (ltR r) m b d) (H : LoA r a m i j b d) (hh : m ≤ h) (hb : h < b) (hl : ltR r d[h]! d[a]! = true) : LoA r a m (h + 1) j b d := by
  refine ⟨fun k h1 h2 => ?_, H.2⟩
  by_cases e : k = h
  · subst e; exact hl
  · cases e2 : ltR r d[k]! d[a]! with
    | true => rfl
    | false =>
      have := (fitsR r).swo.ntrans _ _ _ (hT k h h1 (by omega) hb) e2
      rw [this] at hl; cases hl

theorem LoA.down {r : Rests n} {a m i j b h : Nat} {d : Array (Fin (n + 1))} (hT : SortedIn (ltR r) m b d) (H : LoA r a m i j b d) (hh : m ≤ h) (hl : ltR r d[h]! d[a]! = false) : LoA r a m i h b d := by
  refine ⟨H.1, fun k h1 h2 => ?_⟩
  by_cases e : k = h
  · subst e; exact hl
  · exact (fitsR r).swo.ntrans _ _ _ (hT h k hh (by omega) h2) hl

set_option maxHeartbeats 8000000 in
set_option maxRecDepth 1000000 in
theorem merge_left_any (r : Rests n) (g : Nat) (cb : Array Value) (eg : ∀ args w, (callFunc g args).run Tryz.prog w = .ok (.enter g args) w) (blk off cap a m b : Nat) (sz : Nat) (d0 d : Array (Fin (n + 1))) (w0 w : World)
    (hcmp : CmpLays1 Tryz.prog g cb en (cfR r) blk off sz w0) (R : Row1 en w0 blk off d0) (hs : d0.size = sz) (S : SW en w0 blk off d w) (hd : d.size = sz) (ham : m = a + 1) (hmb : m < b) (hb : b ≤ sz) (hsz : sz < 4611686018427387904) (T : Two (ltR r) (fun x => x.val) a m b d) :
    Calls Tryz.prog 83 #[.slice (some ⟨blk, off, none⟩) sz cap, .int .i64 a, .int .i64 m, .int .i64 b, .func (.func g) #[] cb] w fun e w' =>
      e = .returned (.tuple #[]) ∧ ∃ d', PermIn a b d d' ∧ SortedIn (ltR r) a b d' ∧ SW en w0 blk off d' w' := by
  have S0 : Aside (SW en w0 blk off d w) := S
  have HD : Hid (d.size = sz) := hd
  have TT : Aside (Two (ltR r) (fun x => x.val) a m b d) := T
  have HC : Aside _ := hcmp
  have hone : ((m : Int) - (a : Int) == 1) = true := by simp; omega
  have HM : Hid (m = a + 1) := ham
  have hlt1 : a < m := by omega
  have L0 : Aside (LoA r a m m b b d) := (⟨fun k h1 h2 => by omega, fun k h1 h2 => by omega⟩ : LoA r a m m b b d)
  have mixed : Tryz.prog.follows .mixedOrders = true := by kernel_rfl
  clear S hd T hcmp ham
  go_enter Tryz.func83, Tryz.ntmps83
  go_wp2
  go_loopg [10, 11] b (fun kx vi vj wr => ∃ (i j : Nat), vi = .int .i64 i ∧ vj = .int .i64 j ∧ m ≤ i ∧ i ≤ j ∧ j ≤ b ∧ j - i ≤ kx ∧ Aside (LoA r a m i j b d) ∧ Aside (SW en w0 blk off d wr))
  case atStart => exact ⟨m, b, rfl, rfl, by omega, by omega, by omega, by omega, L0, S0⟩
  case round =>
    clear S0 L0
    obtain ⟨i, j, rfl, rfl, hmi, hij, hjb, hk, HL, S1⟩ := hrel
    by_cases hlt : i < j
    · have hltz : (i : Int) < (j : Int) := by omega
      obtain ⟨h, hh⟩ : ∃ q, q = (i + j) / 2 := ⟨_, rfl⟩
      have hh1 : i ≤ h := by omega
      have hh2 : h < j := by omega
      have zh : ((i : Int) + (j : Int)) / 2 = (h : Int) := by omega
      clear hh
      have pa : (0 : Int) ≤ (h : Int) := by omega
      have ba : (h : Int) < (sz : Int) := by omega
      have pc : (0 : Int) ≤ (a : Int) := by omega
      have bc : (a : Int) < (sz : Int) := by omega
      cases hl : ltR r d[h]! d[a]! with
      | true =>
        obtain ⟨x, hx⟩ : ∃ x, x = d[h]! := ⟨_, rfl⟩
        obtain ⟨y, hy⟩ : ∃ x, x = d[a]! := ⟨_, rfl⟩
        have l1 := S1.out.cl R (by rw [HD.out, hs]) h (by rw [HD.out]; omega)
        have l2 := S1.out.cl R (by rw [HD.out, hs]) a (by rw [HD.out]; omega)
        rw [← hx] at l1
        rw [← hy] at l2
        have hc := S1.out.cmp HC.out (by rw [HD.out]) x y
        have hv : cfR r x y < 0 := by rw [hx, hy]; have := TT.out.test (fitsR r) (i := a) (j := h) (by omega) (by omega) (by omega) (by omega); rw [hl] at this; exact of_decide_eq_true this
        have HLn : Aside (LoA r a m (h + 1) j b d) := HL.out.up TT.out.right (by omega) (by omega) hl
        clear hx hy hl HL
        unfold en at l1 l2 hc
        go_wp2_with fail
        go_quiet_grown (first | (go_at_fn g; refine Calls.grown_of (hc _ _)))
        have S2 : Aside (SW en w0 blk off d (grow (wr.drewN nq) osq)) := S1.out.grown nq osq
        clear l1 l2 hc S1
        generalize grow (wr.drewN nq) osq = w2 at S2 ⊢
        clear nq osq
        go_wp2
        go_roundg (j - (h + 1))
        case measure => omega
        case rel => exact ⟨h + 1, j, by go_num, rfl, by omega, by omega, hjb, by omega, HLn, S2⟩
      | false =>
        obtain ⟨x, hx⟩ : ∃ x, x = d[h]! := ⟨_, rfl⟩
        obtain ⟨y, hy⟩ : ∃ x, x = d[a]! := ⟨_, rfl⟩
        have l1 := S1.out.cl R (by rw [HD.out, hs]) h (by rw [HD.out]; omega)
        have l2 := S1.out.cl R (by rw [HD.out, hs]) a (by rw [HD.out]; omega)
        rw [← hx] at l1
        rw [← hy] at l2
        have hc := S1.out.cmp HC.out (by rw [HD.out]) x y
        have hv : ¬ cfR r x y < 0 := by rw [hx, hy]; have := TT.out.test (fitsR r) (i := a) (j := h) (by omega) (by omega) (by omega) (by omega); rw [hl] at this; exact of_decide_eq_false this
        have HLn : Aside (LoA r a m i h b d) := HL.out.down TT.out.right (by omega) hl
        clear hx hy hl HL
        unfold en at l1 l2 hc
        go_wp2_with fail
        go_quiet_grown (first | (go_at_fn g; refine Calls.grown_of (hc _ _)))
        have S2 : Aside (SW en w0 blk off d (grow (wr.drewN nq) osq)) := S1.out.grown nq osq
        clear l1 l2 hc S1
        generalize grow (wr.drewN nq) osq = w2 at S2 ⊢
        clear nq osq
        go_wp2
        go_roundg (h - i)
        case measure => omega
        case rel => exact ⟨i, h, rfl, rfl, by omega, by omega, by omega, by omega, HLn, S2⟩
    · have hltz : ¬ (i : Int) < (j : Int) := by omega
      obtain rfl : j = i := by omega
      have C0 : Aside (Carried a (a + 1) d d) := Carried.zero a d
      go_wp2
      go_loopg [13] j (fun kx vk wr => ∃ (k : Nat) (dk : Array (Fin (n + 1))), vk = .int .i64 k ∧ a ≤ k ∧ k + 1 ≤ j ∧ j - k ≤ kx ∧ Aside (Carried a (k + 1) d dk) ∧ Aside (PermIn a b d dk) ∧ Aside (SW en w0 blk off dk wr))
      case atStart => exact ⟨a, d, rfl, by omega, by omega, by omega, C0, permIn_refl d a b, S1⟩
      case round =>
        clear S1 C0
        obtain ⟨k, dk, rfl, hak, hkj, hk2, HW, HP, S1⟩ := hrel
        have hsk : dk.size = sz := by rw [HP.out.1, HD.out]
        have HSK : Hid (dk.size = sz) := hsk
        clear hsk
        by_cases hlt2 : k + 1 < j
        · have hltz2 : (k : Int) < (j : Int) - 1 := by omega
          obtain ⟨iN, hiN⟩ : ∃ q, q = k := ⟨_, rfl⟩
          obtain ⟨jN, hjN⟩ : ∃ q, q = k + 1 := ⟨_, rfl⟩
          have ea : ((k : Int)).toNat = iN := by omega
          have pa : (0 : Int) ≤ (k : Int) := by omega
          have ba : (k : Int) < (sz : Int) := by omega
          have ec : ((k : Int) + 1).toNat = jN := by omega
          have pc : (0 : Int) ≤ (k : Int) + 1 := by omega
          have bc : (k : Int) + 1 < (sz : Int) := by omega
          have rc : IntKind.i64.wrap ((k : Int) + 1) = (k : Int) + 1 := by rw [IntKind.wrap_i64]; omega
          obtain ⟨x, hx⟩ : ∃ x, x = dk[k]! := ⟨_, rfl⟩
          obtain ⟨y, hy⟩ : ∃ x, x = dk[k + 1]! := ⟨_, rfl⟩
          have hq := HSK.out
          have S2 : Aside (SW en w0 blk off (swp dk k (k + 1)) ((wr.setCell ⟨blk, off + iN, none⟩ (en y)).setCell ⟨blk, off + jN, none⟩ (en x)).drew) := by rw [hiN, hjN, hx, hy]; exact S1.out.swapped R k (k + 1) (by omega) (by omega)
          have c1a := S1.out.c1 R (by omega) k (by omega)
          have c1b := S1.out.c1 R (by omega) (k + 1) (by omega)
          have f1a := S1.out.f1 R (by omega) k (by omega)
          have f1b := S1.out.f1 R (by omega) (k + 1) (by omega)
          obtain ⟨u, c1c⟩ := S1.out.c2 R (by omega) k (k + 1) (by omega) (by omega) (en y)
          rw [← hjN, ← hiN] at c1c
          rw [← hx, ← hiN] at c1a
          rw [← hy, ← hjN] at c1b
          rw [← hiN] at f1a
          rw [← hjN] at f1b
          clear S1 hx hy hiN hjN hq
          unfold en at c1a c1b c1c S2
          go_wp2_with fail
          go_big_region
          clear c1a c1b c1c f1a f1b
          generalize ((wr.setCell ⟨blk, off + iN, none⟩ _).setCell ⟨blk, off + jN, none⟩ _).drew = w3 at S2 ⊢
          clear ea ec
          go_wp2
          go_roundg (j - (k + 1))
          case measure => omega
          case rel => exact ⟨k + 1, _, by go_num, by omega, by omega, by omega, HW.out.step hak (by rw [HSK.out]; omega), permIn_trans _ _ _ a b HP.out (swp_permIn _ _ _ _ _ (by omega) (by omega) (by omega) (by omega) (by rw [HSK.out]; exact hb)), S2⟩
        · have hltz2 : decide ((k : Int) < (j : Int) - 1) = false := decide_eq_false (by omega)
          go_wp2
          have PP : PermIn a b d dk := HP.out
          have WW := S1.out
          have SS : SortedIn (ltR r) a b dk := by
            have e1 := HM.out
            subst e1
            obtain rfl : j = k + 1 := by omega
            exact merge_one_left (fitsR r) TT.out (by omega) hjb HL.out.1 HL.out.2 HW.out
          exact bodyPost_ret (v := .tuple #[]) (by simp [results, Tryz.results83, go_sem]) rfl ⟨rfl, dk, PP, SS, WW⟩
end Go.Proofs.YtamccmeibnihpaaGreatDoor
