/-
  The walk of slices.symMergeCmpFunc at places where the right part is one place: a binary search, then one place is brought forward.
-/
import Derived.Test.YtamccmeibnihpaaGreatDoorMMergeA
namespace Go.Proofs.YtamccmeibnihpaaGreatDoor
open Go.RowKit Go.Lib Go.Sort Go.Shelf Go.Proofs.YtamccmeibnihpaaGreatDoor.MSort

/-- The element at m is brought one place further. -/
theorem MSort.Brought.step {α : Type} [Inhabited α] {m i : Nat} {d d' : Array α} (h : Brought m (i + 1) d d') (him : i < m) (hs : i + 1 < d'.size) : Brought m i d (swp d' (i + 1) i) := by
  have g := swp_get d' (i := i + 1) (j := i) hs (by omega)
  refine ⟨fun k h1 h2 => ?_, ?_, fun k hk => ?_⟩
  · rw [g]
    by_cases e : k = i + 1
    · subst e; rw [if_neg (by omega), if_pos rfl]; exact h.same _ (Or.inl (by omega))
    · rw [if_neg (by omega), if_neg e]; exact h.moved k (by omega) h2
  · rw [g, if_pos rfl]
    exact h.at'
  · rw [g, if_neg (by omega), if_neg (by omega)]
    exact h.same k (by omega)

theorem MSort.Brought.zero {α : Type} [Inhabited α] (m : Nat) (d : Array α) : Brought m m d d := ⟨fun k h1 h2 => by omega, rfl, fun _ _ => rfl⟩

variable {n : Nat}

/-- What the binary search for the place of the one on the right has found. -/
def LoB (r : Rests n) (a m i j : Nat) (d : Array (Fin (n + 1))) : Prop := (∀ k, a ≤ k → k < i → ltR r d[m]! d[k]! = false) ∧ (∀ k, j ≤ k → k < m → ltR r d[m]! d[k]! = true)

theorem LoB.up {r : Rests n} {a m i j h : Nat} {d : Array (Fin (n + 1))} (hT : SortedIn (ltR r) a m d) (H : LoB r a m i j d) (hb : h < m) (hl : ltR r d[m]! d[h]! = false) : LoB r a m (h + 1) j d := by
  refine ⟨fun k h1 h2 => ?_, H.2⟩
  by_cases e : k = h
  · subst e; exact hl
  · exact (fitsR r).swo.ntrans _ _ _ hl (hT k h h1 (by omega) hb)

theorem LoB.down {r : Rests n} {a m i j h : Nat} {d : Array (Fin (n + 1))} (hT : SortedIn (ltR r) a m d) (H : LoB r a m i j d) (hh : a ≤ h) (hl : ltR r d[m]! d[h]! = true) : LoB r a m i h d := by
  refine ⟨H.1, fun k h1 h2 => ?_⟩
  by_cases e : k = h
  · subst e; exact hl
  · cases e2 : ltR r d[m]! d[k]! with
    | true => rfl
    | false =>
      have := (fitsR r).swo.ntrans _ _ _ e2 (hT h k hh (by omega) h2)
      rw [this] at hl; cases hl

set_option maxHeartbeats 8000000 in
set_option maxRecDepth 1000000 in
theorem merge_right_any (r : Rests n) (g : Nat) (cb : Array Value) (eg : ∀ args w, (callFunc g args).run Tryz.prog w = .ok (.enter g args) w) (blk off cap a m b : Nat) (sz : Nat) (d0 d : Array (Fin (n + 1))) (w0 w : World)
    (hcmp : CmpLays1 Tryz.prog g cb en (cfR r) blk off sz w0) (R : Row1 en w0 blk off d0) (hs : d0.size = sz) (S : SW en w0 blk off d w) (hd : d.size = sz) (ham : a + 1 < m) (hmb : b = m + 1) (hb : b ≤ sz) (hsz : sz < 4611686018427387904) (T : Two (ltR r) (fun x => x.val) a m b d) :
    Calls Tryz.prog 83 #[.slice (some ⟨blk, off, none⟩) sz cap, .int .i64 a, .int .i64 m, .int .i64 b, .func (.func g) #[] cb] w fun e w' =>
      e = .returned (.tuple #[]) ∧ ∃ d', PermIn a b d d' ∧ SortedIn (ltR r) a b d' ∧ SW en w0 blk off d' w' := by
  have S0 : Aside (SW en w0 blk off d w) := S
  have HD : Hid (d.size = sz) := hd
  have TT : Aside (Two (ltR r) (fun x => x.val) a m b d) := T
  have HC : Aside _ := hcmp
  have hone0 : ((m : Int) - (a : Int) == 1) = false := by simp; omega
  have hone : ((b : Int) - (m : Int) == 1) = true := by simp; omega
  have HM : Hid (b = m + 1) := hmb
  have hlt1 : a < m := by omega
  have hlt3 : m < b := by omega
  have L0 : Aside (LoB r a m a m d) := (⟨fun k h1 h2 => by omega, fun k h1 h2 => by omega⟩ : LoB r a m a m d)
  have mixed : Tryz.prog.follows .mixedOrders = true := by kernel_rfl
  clear S hd T hcmp hmb
  go_enter Tryz.func83, Tryz.ntmps83
  go_wp2
  go_loopg [14, 15] m (fun kx vi vj wr => ∃ (i j : Nat), vi = .int .i64 i ∧ vj = .int .i64 j ∧ a ≤ i ∧ i ≤ j ∧ j ≤ m ∧ j - i ≤ kx ∧ Aside (LoB r a m i j d) ∧ Aside (SW en w0 blk off d wr))
  case atStart => exact ⟨a, m, rfl, rfl, by omega, by omega, by omega, by omega, L0, S0⟩
  case round =>
    clear S0 L0
    obtain ⟨i, j, rfl, rfl, hmi, hij, hjb, hk, HL, S1⟩ := hrel
    by_cases hlt : i < j
    · have hltz : (i : Int) < (j : Int) := by omega
      obtain ⟨h, hh⟩ : ∃ q, q = (i + j) / 2 := ⟨_, rfl⟩
      have hh1 : i ≤ h := by omega
      have hh2 : h < j := by omega
      have zh : ((i : Int) + (j : Int)) / 2 = (h : Int) := by omega
      clear hh
      have pa : (0 : Int) ≤ (h : Int) := by omega
      have ba : (h : Int) < (sz : Int) := by omega
      have pc : (0 : Int) ≤ (m : Int) := by omega
      have bc : (m : Int) < (sz : Int) := by omega
      cases hl : ltR r d[m]! d[h]! with
      | false =>
        obtain ⟨x, hx⟩ : ∃ x, x = d[m]! := ⟨_, rfl⟩
        obtain ⟨y, hy⟩ : ∃ x, x = d[h]! := ⟨_, rfl⟩
        have l1 := S1.out.cl R (by rw [HD.out, hs]) m (by rw [HD.out]; omega)
        have l2 := S1.out.cl R (by rw [HD.out, hs]) h (by rw [HD.out]; omega)
        rw [← hx] at l1
        rw [← hy] at l2
        have hc := S1.out.cmp HC.out (by rw [HD.out]) x y
        have hv : ¬ cfR r x y < 0 := by rw [hx, hy]; have := TT.out.test (fitsR r) (i := h) (j := m) (by omega) (by omega) (by omega) (by omega); rw [hl] at this; exact of_decide_eq_false this
        have hd' : decide (cfR r x y < 0) = false := decide_eq_false hv
        have HLn : Aside (LoB r a m (h + 1) j d) := HL.out.up TT.out.left (by omega) hl
        clear hx hy hl HL
        unfold en at l1 l2 hc
        go_wp2_with fail
        go_quiet_grown (first | (go_at_fn g; refine Calls.grown_of (hc _ _)))
        have S2 : Aside (SW en w0 blk off d (grow (wr.drewN nq) osq)) := S1.out.grown nq osq
        clear l1 l2 hc S1
        generalize grow (wr.drewN nq) osq = w2 at S2 ⊢
        clear nq osq
        go_wp2
        go_roundg (j - (h + 1))
        case measure => omega
        case rel => exact ⟨h + 1, j, by go_num, rfl, by omega, by omega, hjb, by omega, HLn, S2⟩
      | true =>
        obtain ⟨x, hx⟩ : ∃ x, x = d[m]! := ⟨_, rfl⟩
        obtain ⟨y, hy⟩ : ∃ x, x = d[h]! := ⟨_, rfl⟩
        have l1 := S1.out.cl R (by rw [HD.out, hs]) m (by rw [HD.out]; omega)
        have l2 := S1.out.cl R (by rw [HD.out, hs]) h (by rw [HD.out]; omega)
        rw [← hx] at l1
        rw [← hy] at l2
        have hc := S1.out.cmp HC.out (by rw [HD.out]) x y
        have hv : cfR r x y < 0 := by rw [hx, hy]; have := TT.out.test (fitsR r) (i := h) (j := m) (by omega) (by omega) (by omega) (by omega); rw [hl] at this; exact of_decide_eq_true this
        have hd' : decide (cfR r x y < 0) = true := decide_eq_true hv
        have HLn : Aside (LoB r a m i h d) := HL.out.down TT.out.left (by omega) hl
        clear hx hy hl HL
        unfold en at l1 l2 hc
        go_wp2_with fail
        go_quiet_grown (first | (go_at_fn g; refine Calls.grown_of (hc _ _)))
        have S2 : Aside (SW en w0 blk off d (grow (wr.drewN nq) osq)) := S1.out.grown nq osq
        clear l1 l2 hc S1
        generalize grow (wr.drewN nq) osq = w2 at S2 ⊢
        clear nq osq
        go_wp2
        go_roundg (h - i)
        case measure => omega
        case rel => exact ⟨i, h, rfl, rfl, by omega, by omega, by omega, by omega, HLn, S2⟩
    · have hltz : ¬ (i : Int) < (j : Int) := by omega
      obtain rfl : j = i := by omega
      have C0 : Aside (Brought m m d d) := Brought.zero m d
      go_wp2
      go_loopg [17] m (fun kx vk wr => ∃ (k : Nat) (dk : Array (Fin (n + 1))), vk = .int .i64 k ∧ j ≤ k ∧ k ≤ m ∧ k - j ≤ kx ∧ Aside (Brought m k d dk) ∧ Aside (PermIn a b d dk) ∧ Aside (SW en w0 blk off dk wr))
      case atStart => exact ⟨m, d, rfl, by omega, by omega, by omega, C0, permIn_refl d a b, S1⟩
      case round =>
        clear S1 C0
        obtain ⟨k, dk, rfl, hjk, hkm, hk2, HW, HP, S1⟩ := hrel
        have hsk : dk.size = sz := by rw [HP.out.1, HD.out]
        have HSK : Hid (dk.size = sz) := hsk
        clear hsk
        by_cases hlt2 : j < k
        · have hltz2 : (j : Int) < (k : Int) := by omega
          obtain ⟨jp, hjp⟩ : ∃ q, q + 1 = k := ⟨k - 1, by omega⟩
          subst hjp
          obtain ⟨iN, hiN⟩ : ∃ q, q = jp + 1 := ⟨_, rfl⟩
          obtain ⟨jN, hjN⟩ : ∃ q, q = jp := ⟨_, rfl⟩
          have ea : ((jp : Int) + 1).toNat = iN := by omega
          have pa : (0 : Int) ≤ (jp : Int) + 1 := by omega
          have ba : (jp : Int) + 1 < (sz : Int) := by omega
          have ra : IntKind.i64.wrap ((jp : Int) + 1) = (jp : Int) + 1 := by rw [IntKind.wrap_i64]; omega
          have ec : ((jp : Int)).toNat = jN := by omega
          have pc : (0 : Int) ≤ (jp : Int) := by omega
          have bc : (jp : Int) < (sz : Int) := by omega
          have rc : IntKind.i64.wrap (jp : Int) = (jp : Int) := by rw [IntKind.wrap_i64]; omega
          have hltz3 : decide ((jp : Int) + 1 > (j : Int)) = true := decide_eq_true (by omega)
          have hltz4 : (j : Int) < (jp : Int) + 1 := by omega
          obtain ⟨x, hx⟩ : ∃ x, x = dk[jp + 1]! := ⟨_, rfl⟩
          obtain ⟨y, hy⟩ : ∃ x, x = dk[jp]! := ⟨_, rfl⟩
          have hq := HSK.out
          have S2 : Aside (SW en w0 blk off (swp dk (jp + 1) jp) ((wr.setCell ⟨blk, off + iN, none⟩ (en y)).setCell ⟨blk, off + jN, none⟩ (en x)).drew) := by rw [hiN, hjN, hx, hy]; exact S1.out.swapped R (jp + 1) jp (by omega) (by omega)
          have c1a := S1.out.c1 R (by omega) (jp + 1) (by omega)
          have c1b := S1.out.c1 R (by omega) jp (by omega)
          have f1a := S1.out.f1 R (by omega) (jp + 1) (by omega)
          have f1b := S1.out.f1 R (by omega) jp (by omega)
          obtain ⟨u, c1c⟩ := S1.out.c2 R (by omega) (jp + 1) jp (by omega) (by omega) (en y)
          rw [← hiN, ← hjN] at c1c
          rw [← hx, ← hiN] at c1a
          rw [← hy, ← hjN] at c1b
          rw [← hiN] at f1a
          rw [← hjN] at f1b
          clear S1 hx hy hiN hjN hq
          unfold en at c1a c1b c1c S2
          go_wp2_with fail
          go_big_region
          clear c1a c1b c1c f1a f1b
          generalize ((wr.setCell ⟨blk, off + iN, none⟩ _).setCell ⟨blk, off + jN, none⟩ _).drew = w3 at S2 ⊢
          clear ea ec
          go_wp2
          go_roundg (jp - j)
          case measure => omega
          case rel => exact ⟨jp, _, by go_num, by omega, by omega, by omega, HW.out.step (by omega) (by rw [HSK.out]; omega), permIn_trans _ _ _ a b HP.out (swp_permIn _ _ _ _ _ (by omega) (by omega) (by omega) (by omega) (by rw [HSK.out]; exact hb)), S2⟩
        · have hltz2 : ¬ (j : Int) < (k : Int) := by omega
          go_wp2
          have PP : PermIn a b d dk := HP.out
          have WW := S1.out
          have SS : SortedIn (ltR r) a b dk := by
            have e1 := HM.out
            subst e1
            obtain rfl : j = k := by omega
            exact merge_one_right (fitsR r) TT.out (by omega) hjb HL.out.1 HL.out.2 HW.out
          exact bodyPost_ret (v := .tuple #[]) (by simp [results, Tryz.results83, go_sem]) rfl ⟨rfl, dk, PP, SS, WW⟩
end Go.Proofs.YtamccmeibnihpaaGreatDoor
