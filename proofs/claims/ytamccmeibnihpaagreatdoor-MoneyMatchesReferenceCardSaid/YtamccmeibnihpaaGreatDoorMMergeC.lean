/-
  The walk of slices.symMergeCmpFunc at places, both parts longer than one: a binary search for the cut, an exchange, and two mergers.
-/
import Derived.Test.YtamccmeibnihpaaGreatDoorMMergeB
namespace Go.Proofs.YtamccmeibnihpaaGreatDoor
open Go.RowKit Go.Lib Go.Sort Go.Shelf Go.Proofs.YtamccmeibnihpaaGreatDoor.MSort

variable {n : Nat}

/-- What the binary search for the cut has found between s0 and r0. -/
structure LoC (r : Rests n) (a m b p s0 r0 s t : Nat) (d : Array (Fin (n + 1))) : Prop where
  lo : s0 < s → ltR r d[p - (s - 1)]! d[s - 1]! = false
  hi : t < r0 → ltR r d[p - t]! d[t]! = true

/-- Where the search goes. -/
structure Range (a m b mid p s0 r0 : Nat) : Prop where
  lp : p + 1 = mid + m
  mid0 : a < mid
  mid1 : mid < b
  le : s0 ≤ r0
  ls0 : a ≤ s0
  lr0 : r0 ≤ m
  hi : p - s0 < b
  lo : r0 ≤ mid
  sum : s0 ≤ p
  way : (s0 = a ∧ r0 = m ∧ m ≤ mid) ∨ (s0 + b = mid + m ∧ r0 = mid ∧ mid < m)

theorem LoC.cut {r : Rests n} {a m b mid p s0 r0 s : Nat} {d : Array (Fin (n + 1))} (G : Range a m b mid p s0 r0) (H : LoC r a m b p s0 r0 s s d) (h1 : s0 ≤ s) (h2 : s ≤ r0) : CutAt (ltR r) a m b s (mid + m - s) d := by
  obtain ⟨gp, g1, g2, g3, g4, g5, g6, g7, g8, g9⟩ := G
  refine ⟨by omega, by omega, by omega, by omega, fun x y => ?_, fun x y => ?_⟩
  · have := H.lo (by omega)
    rw [show p - (s - 1) = mid + m - s by omega] at this
    exact this
  · have := H.hi (by omega)
    rw [show p - s = mid + m - s - 1 by omega] at this
    exact this

/-- That two parts of these places can be merged. -/
def Merges (r : Rests n) (g : Nat) (cb : Array Value) (blk off cap sz : Nat) (w0 : World) (a m b : Nat) : Prop := ∀ (A M B : Int) (d : Array (Fin (n + 1))) (w : World), A = (a : Int) → M = (m : Int) → B = (b : Int) → d.size = sz → Two (ltR r) (fun x => x.val) a m b d → SW en w0 blk off d w →
  Calls Tryz.prog 83 #[.slice (some ⟨blk, off, none⟩) sz cap, .int .i64 A, .int .i64 M, .int .i64 B, .func (.func g) #[] cb] w fun e w' =>
    e = .returned (.tuple #[]) ∧ ∃ d', PermIn a b d d' ∧ SortedIn (ltR r) a b d' ∧ SW en w0 blk off d' w'

/-- Nothing is exchanged. -/
theorem rotated_none {α : Type} [Inhabited α] {s m e : Nat} (d : Array α) (h : s = m ∨ m = e) (h1 : s ≤ m) (h2 : m ≤ e) : Rotated s m e d d := by
  refine ⟨fun k x y => ?_, fun k x y => ?_, fun _ _ => rfl⟩
  · rcases h with h | h
    · subst h; rw [Nat.sub_self, Nat.add_zero]
    · omega
  · rcases h with h | h
    · omega
    · subst h; rw [Nat.sub_self, Nat.sub_zero]

/-- The whole, of its parts. -/
theorem merged {r : Rests n} {a m b mid s e : Nat} {d d1 d2 d3 : Array (Fin (n + 1))} (T : Two (ltR r) (fun x => x.val) a m b d) (hsum : s + e = mid + m) (C : CutAt (ltR r) a m b s e d) (hb : b ≤ d.size) (hm0 : a ≤ mid) (hm1 : mid ≤ b)
    (R1 : Rotated s m e d d1) (P1 : PermIn s e d d1) (P2 : PermIn a mid d1 d2) (S2 : SortedIn (ltR r) a mid d2) (P3 : PermIn mid b d2 d3) (S3 : SortedIn (ltR r) mid b d3) : PermIn a b d d3 ∧ SortedIn (ltR r) a b d3 := by
  have h := cut_halves (fitsR r) T hsum C R1
  have hb1 : b ≤ d1.size := by rw [P1.1]; exact hb
  have j := halves_join (lt := ltR r) hm0 hm1 hb1 P2 P3 S2 S3 h.2.2
  exact ⟨permIn_trans _ _ _ a b (permIn_mono _ _ s e a b C.s0 C.e1 hb P1) j.1, j.2⟩

theorem no_left {r : Rests n} {a mid s : Nat} {d : Array (Fin (n + 1))} (T : Two (ltR r) (fun x => x.val) a s mid d) (h : s = a ∨ s = mid) : SortedIn (ltR r) a mid d := by
  rcases h with h | h
  · subst h; exact T.left_empty
  · subst h; exact T.right_empty

set_option maxHeartbeats 16000000 in
set_option maxRecDepth 1000000 in
theorem merge_mid (r : Rests n) (g : Nat) (cb : Array Value) (eg : ∀ args w, (callFunc g args).run Tryz.prog w = .ok (.enter g args) w) (blk off cap a m b mid p s0 r0 : Nat) (sz : Nat) (d0 d : Array (Fin (n + 1))) (w0 w : World)
    (hcmp : CmpLays1 Tryz.prog g cb en (cfR r) blk off sz w0) (R : Row1 en w0 blk off d0) (hs : d0.size = sz) (S : SW en w0 blk off d w) (hd : d.size = sz) (ham : a + 1 < m) (hmb : m + 1 < b) (hb : b ≤ sz) (hsz : sz < 4611686018427387904) (T : Two (ltR r) (fun x => x.val) a m b d)
    (hmid : mid = (a + b) / 2) (G : Range a m b mid p s0 r0) (IH : ∀ a' m' b', b' - a' < b - a → a' < m' → m' < b' → b' ≤ sz → Merges r g cb blk off cap sz w0 a' m' b') :
    Calls Tryz.prog 83 #[.slice (some ⟨blk, off, none⟩) sz cap, .int .i64 a, .int .i64 m, .int .i64 b, .func (.func g) #[] cb] w fun e w' =>
      e = .returned (.tuple #[]) ∧ ∃ d', PermIn a b d d' ∧ SortedIn (ltR r) a b d' ∧ SW en w0 blk off d' w' := by
  have S0 : Aside (SW en w0 blk off d w) := S
  have HD : Hid (d.size = sz) := hd
  have TT : Aside (Two (ltR r) (fun x => x.val) a m b d) := T
  have HC : Aside _ := hcmp
  have HI : Aside _ := IH
  have GG : Aside (Range a m b mid p s0 r0) := G
  have hone0 : ((m : Int) - (a : Int) == 1) = false := by simp; omega
  have hone : ((b : Int) - (m : Int) == 1) = false := by simp; omega
  have mixed : Tryz.prog.follows .mixedOrders = true := by kernel_rfl
  obtain ⟨gp, g1, g2, g3, g4, g5, g6, g7, g8, g9⟩ := G
  have zmid : ((a : Int) + (b : Int)) / 2 = (mid : Int) := by omega
  have zp : (mid : Int) + (m : Int) - 1 = (p : Int) := by omega
  have L0 : Aside (LoC r a m b p s0 r0 s0 r0 d) := (⟨fun h => by omega, fun h => by omega⟩ : LoC r a m b p s0 r0 s0 r0 d)
  have GP : Hid (p + 1 = mid + m) := gp
  clear S hd T hcmp IH hmid gp
  rcases g9 with ⟨q1, q2, q3⟩ | ⟨q1, q2, q3⟩
  · have q4 : ¬ (mid : Int) < (m : Int) := by omega
    have Q1 : Hid (s0 = a) := q1
    have Q2 : Hid (r0 = m) := q2
    clear q1 q2
    go_enter Tryz.func83, Tryz.ntmps83
    go_wp2
    go_loopg [20, 21] r0 (fun kx vs vt wr => ∃ (s t : Nat), vs = .int .i64 s ∧ vt = .int .i64 t ∧ s0 ≤ s ∧ s ≤ t ∧ t ≤ r0 ∧ t - s ≤ kx ∧ Aside (LoC r a m b p s0 r0 s t d) ∧ Aside (SW en w0 blk off d wr))
    case atStart => exact ⟨s0, r0, by first | rfl | rw [Q1.out], by first | rfl | rw [Q2.out], by omega, by omega, by omega, by omega, L0, S0⟩
    case round =>
      clear S0 L0
      obtain ⟨s, t, rfl, rfl, hs0, hst, htr, hk, HL, S1⟩ := hrel
      by_cases hlt : s < t
      · have hltz : (s : Int) < (t : Int) := by omega
        obtain ⟨c, hcc⟩ : ∃ q, q = (s + t) / 2 := ⟨_, rfl⟩
        have hc1 : s ≤ c := by omega
        have hc2 : c < t := by omega
        have zc : ((s : Int) + (t : Int)) / 2 = (c : Int) := by omega
        have gp := GP.out
        obtain ⟨q, hq⟩ : ∃ q, q = p - c := ⟨_, rfl⟩
        have zq : (p : Int) - (c : Int) = (q : Int) := by omega
        have rq : IntKind.i64.wrap (q : Int) = (q : Int) := by rw [IntKind.wrap_i64]; omega
        have hq1 : m ≤ q := by omega
        have hq2 : q < b := by omega
        have HQ : Hid (q = p - c) := hq
        clear hcc gp hq
        have pa : (0 : Int) ≤ (q : Int) := by omega
        have ba : (q : Int) < (sz : Int) := by omega
        have pc : (0 : Int) ≤ (c : Int) := by omega
        have bc : (c : Int) < (sz : Int) := by omega
        obtain ⟨x, hx⟩ : ∃ x, x = d[q]! := ⟨_, rfl⟩
        obtain ⟨y, hy⟩ : ∃ x, x = d[c]! := ⟨_, rfl⟩
        have l1 := S1.out.cl R (by rw [HD.out, hs]) q (by rw [HD.out]; omega)
        have l2 := S1.out.cl R (by rw [HD.out, hs]) c (by rw [HD.out]; omega)
        rw [← hx] at l1
        rw [← hy] at l2
        have hc := S1.out.cmp HC.out (by rw [HD.out]) x y
        have htest := TT.out.test (fitsR r) (i := c) (j := q) (by omega) (by omega) (by omega) (by omega)
        cases hl : ltR r d[q]! d[c]! with
        | true =>
          have hv : cfR r x y < 0 := by rw [hx, hy]; rw [hl] at htest; exact of_decide_eq_true htest
          have hd' : decide (cfR r x y < 0) = true := decide_eq_true hv
          have HLn : Aside (LoC r a m b p s0 r0 s c d) := (⟨HL.out.lo, fun _ => by rw [← HQ.out]; exact hl⟩ : LoC r a m b p s0 r0 s c d)
          clear hx hy hl HL htest
          unfold en at l1 l2 hc
          go_wp2_with fail
          go_quiet_grown (first | (go_at_fn g; refine Calls.grown_of (hc _ _)))
          have S2 : Aside (SW en w0 blk off d (grow (wr.drewN nq) osq)) := S1.out.grown nq osq
          clear l1 l2 hc S1
          generalize grow (wr.drewN nq) osq = w2 at S2 ⊢
          clear nq osq
          go_wp2
          go_roundg (c - s)
          case measure => omega
          case rel => exact ⟨s, c, rfl, rfl, by omega, by omega, by omega, by omega, HLn, S2⟩
        | false =>
          have hv : ¬ cfR r x y < 0 := by rw [hx, hy]; rw [hl] at htest; exact of_decide_eq_false htest
          have hd' : decide (cfR r x y < 0) = false := decide_eq_false hv
          have HLn : Aside (LoC r a m b p s0 r0 (c + 1) t d) := (⟨fun _ => by rw [Nat.add_sub_cancel, ← HQ.out]; exact hl, HL.out.hi⟩ : LoC r a m b p s0 r0 (c + 1) t d)
          clear hx hy hl HL htest
          unfold en at l1 l2 hc
          go_wp2_with fail
          go_quiet_grown (first | (go_at_fn g; refine Calls.grown_of (hc _ _)))
          have S2 : Aside (SW en w0 blk off d (grow (wr.drewN nq) osq)) := S1.out.grown nq osq
          clear l1 l2 hc S1
          generalize grow (wr.drewN nq) osq = w2 at S2 ⊢
          clear nq osq
          go_wp2
          go_roundg (t - (c + 1))
          case measure => omega
          case rel => exact ⟨c + 1, t, by go_num, rfl, by omega, by omega, by omega, by omega, HLn, S2⟩
      · have hltz : ¬ (s : Int) < (t : Int) := by omega
        obtain rfl : t = s := by omega
        have CC0 : CutAt (ltR r) a m b t (mid + m - t) d := HL.out.cut GG.out (by omega) (by omega)
        obtain ⟨e, he⟩ : ∃ q, q = mid + m - t := ⟨_, rfl⟩
        have CC : Aside (CutAt (ltR r) a m b t e d) := by rw [he]; exact CC0
        have ze : (mid : Int) + (m : Int) - (t : Int) = (e : Int) := by omega
        have he1 : m ≤ e := CC.out.e0
        have he2 : e ≤ b := CC.out.e1
        have ZS : Hid (t + e = mid + m) := by show t + e = mid + m; omega
        clear HL CC0
        obtain ⟨he3, he4, he5, he6⟩ : (t < m ↔ mid < e) ∧ (t < mid ↔ m < e) ∧ (¬ a < t → t < m ∧ t < mid) ∧ (¬ e < b → t < m ∧ t < mid) := by omega
        clear he
        by_cases c1 : t < m
        · by_cases c2 : t < mid
          · by_cases c3 : a < t
            · by_cases c4 : e < b
              · skip
                have t1 : (t : Int) < (m : Int) := by omega
                have t2 : (m : Int) < (e : Int) := by omega
                have t3 : (a : Int) < (t : Int) := by omega
                have t4 : (t : Int) < (mid : Int) := by omega
                have t5 : (mid : Int) < (e : Int) := by omega
                have t6 : (e : Int) < (b : Int) := by omega
                have hc := rotate_any (n := n) g cb blk off cap t m e sz d0 d w0 wr R hs S1.out HD.out (by omega) (by omega) (by omega) hsz
                have K := Lib.hid hc
                clear hc S1
                go_wp2_with fail
                refine K.out.mono ?_
                rintro e' w1 ⟨rfl, d1, hR, hP, hS⟩
                have RR : Aside (Rotated t m e d d1) := hR
                have P1 : Aside (PermIn t e d d1) := hP
                have S2 : Aside (SW en w0 blk off d1 w1) := hS
                clear hR hP hS K
                have HH : Aside (Two (ltR r) (fun x => x.val) a t mid d1 ∧ Two (ltR r) (fun x => x.val) mid e b d1 ∧ ∀ p q, a ≤ p → p < mid → mid ≤ q → q < b → ltR r d1[q]! d1[p]! = false) := cut_halves (fitsR r) TT.out ZS.out CC.out RR.out
                have hc := HI.out a t mid (by omega) (by omega) (by omega) (by omega) a t mid d1 w1 rfl rfl rfl (by rw [P1.out.1, HD.out]) HH.out.1 S2.out
                have K := Lib.hid hc
                clear hc S2
                go_wp2_with fail
                refine K.out.mono ?_
                rintro e' w2 ⟨rfl, d2, hP, hQ, hS⟩
                have P2 : Aside (PermIn a mid d1 d2) := hP
                have Q2 : Aside (SortedIn (ltR r) a mid d2) := hQ
                have S3 : Aside (SW en w0 blk off d2 w2) := hS
                clear hP hQ hS K
                have H3 : Aside (Two (ltR r) (fun x => x.val) mid e b d2) := HH.out.2.1.elsewhere (fun k h1 h2 => P2.out.2.1 k (Or.inr h1)) (by omega) (by omega)
                have hc := HI.out mid e b (by omega) (by omega) (by omega) (by omega) mid e b d2 w2 rfl rfl rfl (by rw [P2.out.1, P1.out.1, HD.out]) H3.out S3.out
                have K := Lib.hid hc
                clear hc S3
                go_wp2_with fail
                refine K.out.mono ?_
                rintro e' w3 ⟨rfl, d3, hP, hQ, hS⟩
                have P3 : Aside (PermIn mid b d2 d3) := hP
                have Q3 : Aside (SortedIn (ltR r) mid b d3) := hQ
                have S4 : Aside (SW en w0 blk off d3 w3) := hS
                clear hP hQ hS K
                go_wp2
                go_end0
                have F := merged TT.out ZS.out CC.out (by rw [HD.out]; exact hb) (by omega) (by omega) RR.out P1.out P2.out Q2.out P3.out Q3.out
                exact ⟨rfl, d3, F.1, F.2, S4.out⟩
              · skip
                have t1 : (t : Int) < (m : Int) := by omega
                have t2 : (m : Int) < (e : Int) := by omega
                have t3 : (a : Int) < (t : Int) := by omega
                have t4 : (t : Int) < (mid : Int) := by omega
                have t5 : (mid : Int) < (e : Int) := by omega
                have t6 : ¬ (e : Int) < (b : Int) := by omega
                have hc := rotate_any (n := n) g cb blk off cap t m e sz d0 d w0 wr R hs S1.out HD.out (by omega) (by omega) (by omega) hsz
                have K := Lib.hid hc
                clear hc S1
                go_wp2_with fail
                refine K.out.mono ?_
                rintro e' w1 ⟨rfl, d1, hR, hP, hS⟩
                have RR : Aside (Rotated t m e d d1) := hR
                have P1 : Aside (PermIn t e d d1) := hP
                have S2 : Aside (SW en w0 blk off d1 w1) := hS
                clear hR hP hS K
                have HH : Aside (Two (ltR r) (fun x => x.val) a t mid d1 ∧ Two (ltR r) (fun x => x.val) mid e b d1 ∧ ∀ p q, a ≤ p → p < mid → mid ≤ q → q < b → ltR r d1[q]! d1[p]! = false) := cut_halves (fitsR r) TT.out ZS.out CC.out RR.out
                have hc := HI.out a t mid (by omega) (by omega) (by omega) (by omega) a t mid d1 w1 rfl rfl rfl (by rw [P1.out.1, HD.out]) HH.out.1 S2.out
                have K := Lib.hid hc
                clear hc S2
                go_wp2_with fail
                refine K.out.mono ?_
                rintro e' w2 ⟨rfl, d2, hP, hQ, hS⟩
                have P2 : Aside (PermIn a mid d1 d2) := hP
                have Q2 : Aside (SortedIn (ltR r) a mid d2) := hQ
                have S3 : Aside (SW en w0 blk off d2 w2) := hS
                clear hP hQ hS K
                have P3 : Aside (PermIn mid b d2 d2) := permIn_refl _ mid b
                have Q3 : Aside (SortedIn (ltR r) mid b d2) := no_left (HH.out.2.1.elsewhere (fun k h1 h2 => P2.out.2.1 k (Or.inr h1)) (by omega) (by omega)) (by omega)
                go_wp2
                go_end0
                have F := merged TT.out ZS.out CC.out (by rw [HD.out]; exact hb) (by omega) (by omega) RR.out P1.out P2.out Q2.out P3.out Q3.out
                exact ⟨rfl, d2, F.1, F.2, S3.out⟩
            · by_cases c4 : e < b
              · skip
                have t1 : (t : Int) < (m : Int) := by omega
                have t2 : (m : Int) < (e : Int) := by omega
                have t3 : ¬ (a : Int) < (t : Int) := by omega
                have t4 : (t : Int) < (mid : Int) := by omega
                have t5 : (mid : Int) < (e : Int) := by omega
                have t6 : (e : Int) < (b : Int) := by omega
                have hc := rotate_any (n := n) g cb blk off cap t m e sz d0 d w0 wr R hs S1.out HD.out (by omega) (by omega) (by omega) hsz
                have K := Lib.hid hc
                clear hc S1
                go_wp2_with fail
                refine K.out.mono ?_
                rintro e' w1 ⟨rfl, d1, hR, hP, hS⟩
                have RR : Aside (Rotated t m e d d1) := hR
                have P1 : Aside (PermIn t e d d1) := hP
                have S2 : Aside (SW en w0 blk off d1 w1) := hS
                clear hR hP hS K
                have HH : Aside (Two (ltR r) (fun x => x.val) a t mid d1 ∧ Two (ltR r) (fun x => x.val) mid e b d1 ∧ ∀ p q, a ≤ p → p < mid → mid ≤ q → q < b → ltR r d1[q]! d1[p]! = false) := cut_halves (fitsR r) TT.out ZS.out CC.out RR.out
                have P2 : Aside (PermIn a mid d1 d1) := permIn_refl _ a mid
                have Q2 : Aside (SortedIn (ltR r) a mid d1) := no_left HH.out.1 (by omega)
                have H3 : Aside (Two (ltR r) (fun x => x.val) mid e b d1) := HH.out.2.1.elsewhere (fun k h1 h2 => P2.out.2.1 k (Or.inr h1)) (by omega) (by omega)
                have hc := HI.out mid e b (by omega) (by omega) (by omega) (by omega) mid e b d1 w1 rfl rfl rfl (by rw [P2.out.1, P1.out.1, HD.out]) H3.out S2.out
                have K := Lib.hid hc
                clear hc S2
                go_wp2_with fail
                refine K.out.mono ?_
                rintro e' w3 ⟨rfl, d3, hP, hQ, hS⟩
                have P3 : Aside (PermIn mid b d1 d3) := hP
                have Q3 : Aside (SortedIn (ltR r) mid b d3) := hQ
                have S4 : Aside (SW en w0 blk off d3 w3) := hS
                clear hP hQ hS K
                go_wp2
                go_end0
                have F := merged TT.out ZS.out CC.out (by rw [HD.out]; exact hb) (by omega) (by omega) RR.out P1.out P2.out Q2.out P3.out Q3.out
                exact ⟨rfl, d3, F.1, F.2, S4.out⟩
              · skip
                have t1 : (t : Int) < (m : Int) := by omega
                have t2 : (m : Int) < (e : Int) := by omega
                have t3 : ¬ (a : Int) < (t : Int) := by omega
                have t4 : (t : Int) < (mid : Int) := by omega
                have t5 : (mid : Int) < (e : Int) := by omega
                have t6 : ¬ (e : Int) < (b : Int) := by omega
                have hc := rotate_any (n := n) g cb blk off cap t m e sz d0 d w0 wr R hs S1.out HD.out (by omega) (by omega) (by omega) hsz
                have K := Lib.hid hc
                clear hc S1
                go_wp2_with fail
                refine K.out.mono ?_
                rintro e' w1 ⟨rfl, d1, hR, hP, hS⟩
                have RR : Aside (Rotated t m e d d1) := hR
                have P1 : Aside (PermIn t e d d1) := hP
                have S2 : Aside (SW en w0 blk off d1 w1) := hS
                clear hR hP hS K
                have HH : Aside (Two (ltR r) (fun x => x.val) a t mid d1 ∧ Two (ltR r) (fun x => x.val) mid e b d1 ∧ ∀ p q, a ≤ p → p < mid → mid ≤ q → q < b → ltR r d1[q]! d1[p]! = false) := cut_halves (fitsR r) TT.out ZS.out CC.out RR.out
                have P2 : Aside (PermIn a mid d1 d1) := permIn_refl _ a mid
                have Q2 : Aside (SortedIn (ltR r) a mid d1) := no_left HH.out.1 (by omega)
                have P3 : Aside (PermIn mid b d1 d1) := permIn_refl _ mid b
                have Q3 : Aside (SortedIn (ltR r) mid b d1) := no_left (HH.out.2.1.elsewhere (fun k h1 h2 => P2.out.2.1 k (Or.inr h1)) (by omega) (by omega)) (by omega)
                go_wp2
                go_end0
                have F := merged TT.out ZS.out CC.out (by rw [HD.out]; exact hb) (by omega) (by omega) RR.out P1.out P2.out Q2.out P3.out Q3.out
                exact ⟨rfl, d1, F.1, F.2, S2.out⟩
          · skip
            have t1 : (t : Int) < (m : Int) := by omega
            have t2 : ¬ (m : Int) < (e : Int) := by omega
            have t3 : (a : Int) < (t : Int) := by omega
            have t4 : ¬ (t : Int) < (mid : Int) := by omega
            have t5 : (mid : Int) < (e : Int) := by omega
            have t6 : (e : Int) < (b : Int) := by omega
            have RR : Aside (Rotated t m e d d) := rotated_none d (by omega) (by omega) (by omega)
            have P1 : Aside (PermIn t e d d) := permIn_refl d t e
            have HH : Aside (Two (ltR r) (fun x => x.val) a t mid d ∧ Two (ltR r) (fun x => x.val) mid e b d ∧ ∀ p q, a ≤ p → p < mid → mid ≤ q → q < b → ltR r d[q]! d[p]! = false) := cut_halves (fitsR r) TT.out ZS.out CC.out RR.out
            have P2 : Aside (PermIn a mid d d) := permIn_refl _ a mid
            have Q2 : Aside (SortedIn (ltR r) a mid d) := no_left HH.out.1 (by omega)
            have H3 : Aside (Two (ltR r) (fun x => x.val) mid e b d) := HH.out.2.1.elsewhere (fun k h1 h2 => P2.out.2.1 k (Or.inr h1)) (by omega) (by omega)
            have hc := HI.out mid e b (by omega) (by omega) (by omega) (by omega) mid e b d wr rfl rfl rfl (by rw [P2.out.1, P1.out.1, HD.out]) H3.out S1.out
            have K := Lib.hid hc
            clear hc S1
            go_wp2_with fail
            refine K.out.mono ?_
            rintro e' w3 ⟨rfl, d3, hP, hQ, hS⟩
            have P3 : Aside (PermIn mid b d d3) := hP
            have Q3 : Aside (SortedIn (ltR r) mid b d3) := hQ
            have S4 : Aside (SW en w0 blk off d3 w3) := hS
            clear hP hQ hS K
            go_wp2
            go_end0
            have F := merged TT.out ZS.out CC.out (by rw [HD.out]; exact hb) (by omega) (by omega) RR.out P1.out P2.out Q2.out P3.out Q3.out
            exact ⟨rfl, d3, F.1, F.2, S4.out⟩
        · by_cases c2 : t < mid
          · skip
            have t1 : ¬ (t : Int) < (m : Int) := by omega
            have t2 : (m : Int) < (e : Int) := by omega
            have t3 : (a : Int) < (t : Int) := by omega
            have t4 : (t : Int) < (mid : Int) := by omega
            have t5 : ¬ (mid : Int) < (e : Int) := by omega
            have t6 : (e : Int) < (b : Int) := by omega
            have RR : Aside (Rotated t m e d d) := rotated_none d (by omega) (by omega) (by omega)
            have P1 : Aside (PermIn t e d d) := permIn_refl d t e
            have HH : Aside (Two (ltR r) (fun x => x.val) a t mid d ∧ Two (ltR r) (fun x => x.val) mid e b d ∧ ∀ p q, a ≤ p → p < mid → mid ≤ q → q < b → ltR r d[q]! d[p]! = false) := cut_halves (fitsR r) TT.out ZS.out CC.out RR.out
            have hc := HI.out a t mid (by omega) (by omega) (by omega) (by omega) a t mid d wr rfl rfl rfl (by rw [P1.out.1, HD.out]) HH.out.1 S1.out
            have K := Lib.hid hc
            clear hc S1
            go_wp2_with fail
            refine K.out.mono ?_
            rintro e' w2 ⟨rfl, d2, hP, hQ, hS⟩
            have P2 : Aside (PermIn a mid d d2) := hP
            have Q2 : Aside (SortedIn (ltR r) a mid d2) := hQ
            have S3 : Aside (SW en w0 blk off d2 w2) := hS
            clear hP hQ hS K
            have P3 : Aside (PermIn mid b d2 d2) := permIn_refl _ mid b
            have Q3 : Aside (SortedIn (ltR r) mid b d2) := no_left (HH.out.2.1.elsewhere (fun k h1 h2 => P2.out.2.1 k (Or.inr h1)) (by omega) (by omega)) (by omega)
            go_wp2
            go_end0
            have F := merged TT.out ZS.out CC.out (by rw [HD.out]; exact hb) (by omega) (by omega) RR.out P1.out P2.out Q2.out P3.out Q3.out
            exact ⟨rfl, d2, F.1, F.2, S3.out⟩
          · skip
            have t1 : ¬ (t : Int) < (m : Int) := by omega
            have t2 : ¬ (m : Int) < (e : Int) := by omega
            have t3 : (a : Int) < (t : Int) := by omega
            have t4 : ¬ (t : Int) < (mid : Int) := by omega
            have t5 : ¬ (mid : Int) < (e : Int) := by omega
            have t6 : (e : Int) < (b : Int) := by omega
            have RR : Aside (Rotated t m e d d) := rotated_none d (by omega) (by omega) (by omega)
            have P1 : Aside (PermIn t e d d) := permIn_refl d t e
            have HH : Aside (Two (ltR r) (fun x => x.val) a t mid d ∧ Two (ltR r) (fun x => x.val) mid e b d ∧ ∀ p q, a ≤ p → p < mid → mid ≤ q → q < b → ltR r d[q]! d[p]! = false) := cut_halves (fitsR r) TT.out ZS.out CC.out RR.out
            have P2 : Aside (PermIn a mid d d) := permIn_refl _ a mid
            have Q2 : Aside (SortedIn (ltR r) a mid d) := no_left HH.out.1 (by omega)
            have P3 : Aside (PermIn mid b d d) := permIn_refl _ mid b
            have Q3 : Aside (SortedIn (ltR r) mid b d) := no_left (HH.out.2.1.elsewhere (fun k h1 h2 => P2.out.2.1 k (Or.inr h1)) (by omega) (by omega)) (by omega)
            go_wp2
            go_end0
            have F := merged TT.out ZS.out CC.out (by rw [HD.out]; exact hb) (by omega) (by omega) RR.out P1.out P2.out Q2.out P3.out Q3.out
            exact ⟨rfl, d, F.1, F.2, S1.out⟩
  · have q4 : (mid : Int) < (m : Int) := by omega
    have q5 : (mid : Int) + (m : Int) - (b : Int) = (s0 : Int) := by omega
    have Q1 : Hid (r0 = mid) := q2
    have Q2 : Hid (r0 = mid) := q2
    clear q1 q2
    go_enter Tryz.func83, Tryz.ntmps83
    go_wp2
    go_loopg [20, 21] r0 (fun kx vs vt wr => ∃ (s t : Nat), vs = .int .i64 s ∧ vt = .int .i64 t ∧ s0 ≤ s ∧ s ≤ t ∧ t ≤ r0 ∧ t - s ≤ kx ∧ Aside (LoC r a m b p s0 r0 s t d) ∧ Aside (SW en w0 blk off d wr))
    case atStart => exact ⟨s0, r0, by first | rfl | rw [Q1.out], by first | rfl | rw [Q2.out], by omega, by omega, by omega, by omega, L0, S0⟩
    case round =>
      clear S0 L0
      obtain ⟨s, t, rfl, rfl, hs0, hst, htr, hk, HL, S1⟩ := hrel
      by_cases hlt : s < t
      · have hltz : (s : Int) < (t : Int) := by omega
        obtain ⟨c, hcc⟩ : ∃ q, q = (s + t) / 2 := ⟨_, rfl⟩
        have hc1 : s ≤ c := by omega
        have hc2 : c < t := by omega
        have zc : ((s : Int) + (t : Int)) / 2 = (c : Int) := by omega
        have gp := GP.out
        obtain ⟨q, hq⟩ : ∃ q, q = p - c := ⟨_, rfl⟩
        have zq : (p : Int) - (c : Int) = (q : Int) := by omega
        have rq : IntKind.i64.wrap (q : Int) = (q : Int) := by rw [IntKind.wrap_i64]; omega
        have hq1 : m ≤ q := by omega
        have hq2 : q < b := by omega
        have HQ : Hid (q = p - c) := hq
        clear hcc gp hq
        have pa : (0 : Int) ≤ (q : Int) := by omega
        have ba : (q : Int) < (sz : Int) := by omega
        have pc : (0 : Int) ≤ (c : Int) := by omega
        have bc : (c : Int) < (sz : Int) := by omega
        obtain ⟨x, hx⟩ : ∃ x, x = d[q]! := ⟨_, rfl⟩
        obtain ⟨y, hy⟩ : ∃ x, x = d[c]! := ⟨_, rfl⟩
        have l1 := S1.out.cl R (by rw [HD.out, hs]) q (by rw [HD.out]; omega)
        have l2 := S1.out.cl R (by rw [HD.out, hs]) c (by rw [HD.out]; omega)
        rw [← hx] at l1
        rw [← hy] at l2
        have hc := S1.out.cmp HC.out (by rw [HD.out]) x y
        have htest := TT.out.test (fitsR r) (i := c) (j := q) (by omega) (by omega) (by omega) (by omega)
        cases hl : ltR r d[q]! d[c]! with
        | true =>
          have hv : cfR r x y < 0 := by rw [hx, hy]; rw [hl] at htest; exact of_decide_eq_true htest
          have hd' : decide (cfR r x y < 0) = true := decide_eq_true hv
          have HLn : Aside (LoC r a m b p s0 r0 s c d) := (⟨HL.out.lo, fun _ => by rw [← HQ.out]; exact hl⟩ : LoC r a m b p s0 r0 s c d)
          clear hx hy hl HL htest
          unfold en at l1 l2 hc
          go_wp2_with fail
          go_quiet_grown (first | (go_at_fn g; refine Calls.grown_of (hc _ _)))
          have S2 : Aside (SW en w0 blk off d (grow (wr.drewN nq) osq)) := S1.out.grown nq osq
          clear l1 l2 hc S1
          generalize grow (wr.drewN nq) osq = w2 at S2 ⊢
          clear nq osq
          go_wp2
          go_roundg (c - s)
          case measure => omega
          case rel => exact ⟨s, c, rfl, rfl, by omega, by omega, by omega, by omega, HLn, S2⟩
        | false =>
          have hv : ¬ cfR r x y < 0 := by rw [hx, hy]; rw [hl] at htest; exact of_decide_eq_false htest
          have hd' : decide (cfR r x y < 0) = false := decide_eq_false hv
          have HLn : Aside (LoC r a m b p s0 r0 (c + 1) t d) := (⟨fun _ => by rw [Nat.add_sub_cancel, ← HQ.out]; exact hl, HL.out.hi⟩ : LoC r a m b p s0 r0 (c + 1) t d)
          clear hx hy hl HL htest
          unfold en at l1 l2 hc
          go_wp2_with fail
          go_quiet_grown (first | (go_at_fn g; refine Calls.grown_of (hc _ _)))
          have S2 : Aside (SW en w0 blk off d (grow (wr.drewN nq) osq)) := S1.out.grown nq osq
          clear l1 l2 hc S1
          generalize grow (wr.drewN nq) osq = w2 at S2 ⊢
          clear nq osq
          go_wp2
          go_roundg (t - (c + 1))
          case measure => omega
          case rel => exact ⟨c + 1, t, by go_num, rfl, by omega, by omega, by omega, by omega, HLn, S2⟩
      · have hltz : ¬ (s : Int) < (t : Int) := by omega
        obtain rfl : t = s := by omega
        have CC0 : CutAt (ltR r) a m b t (mid + m - t) d := HL.out.cut GG.out (by omega) (by omega)
        obtain ⟨e, he⟩ : ∃ q, q = mid + m - t := ⟨_, rfl⟩
        have CC : Aside (CutAt (ltR r) a m b t e d) := by rw [he]; exact CC0
        have ze : (mid : Int) + (m : Int) - (t : Int) = (e : Int) := by omega
        have he1 : m ≤ e := CC.out.e0
        have he2 : e ≤ b := CC.out.e1
        have ZS : Hid (t + e = mid + m) := by show t + e = mid + m; omega
        clear HL CC0
        obtain ⟨he3, he4, he5, he6⟩ : (t < m ↔ mid < e) ∧ (t < mid ↔ m < e) ∧ (¬ a < t → t < m ∧ t < mid) ∧ (¬ e < b → t < m ∧ t < mid) := by omega
        clear he
        by_cases c1 : t < m
        · by_cases c2 : t < mid
          · by_cases c3 : a < t
            · by_cases c4 : e < b
              · skip
                have t1 : (t : Int) < (m : Int) := by omega
                have t2 : (m : Int) < (e : Int) := by omega
                have t3 : (a : Int) < (t : Int) := by omega
                have t4 : (t : Int) < (mid : Int) := by omega
                have t5 : (mid : Int) < (e : Int) := by omega
                have t6 : (e : Int) < (b : Int) := by omega
                have hc := rotate_any (n := n) g cb blk off cap t m e sz d0 d w0 wr R hs S1.out HD.out (by omega) (by omega) (by omega) hsz
                have K := Lib.hid hc
                clear hc S1
                go_wp2_with fail
                refine K.out.mono ?_
                rintro e' w1 ⟨rfl, d1, hR, hP, hS⟩
                have RR : Aside (Rotated t m e d d1) := hR
                have P1 : Aside (PermIn t e d d1) := hP
                have S2 : Aside (SW en w0 blk off d1 w1) := hS
                clear hR hP hS K
                have HH : Aside (Two (ltR r) (fun x => x.val) a t mid d1 ∧ Two (ltR r) (fun x => x.val) mid e b d1 ∧ ∀ p q, a ≤ p → p < mid → mid ≤ q → q < b → ltR r d1[q]! d1[p]! = false) := cut_halves (fitsR r) TT.out ZS.out CC.out RR.out
                have hc := HI.out a t mid (by omega) (by omega) (by omega) (by omega) a t mid d1 w1 rfl rfl rfl (by rw [P1.out.1, HD.out]) HH.out.1 S2.out
                have K := Lib.hid hc
                clear hc S2
                go_wp2_with fail
                refine K.out.mono ?_
                rintro e' w2 ⟨rfl, d2, hP, hQ, hS⟩
                have P2 : Aside (PermIn a mid d1 d2) := hP
                have Q2 : Aside (SortedIn (ltR r) a mid d2) := hQ
                have S3 : Aside (SW en w0 blk off d2 w2) := hS
                clear hP hQ hS K
                have H3 : Aside (Two (ltR r) (fun x => x.val) mid e b d2) := HH.out.2.1.elsewhere (fun k h1 h2 => P2.out.2.1 k (Or.inr h1)) (by omega) (by omega)
                have hc := HI.out mid e b (by omega) (by omega) (by omega) (by omega) mid e b d2 w2 rfl rfl rfl (by rw [P2.out.1, P1.out.1, HD.out]) H3.out S3.out
                have K := Lib.hid hc
                clear hc S3
                go_wp2_with fail
                refine K.out.mono ?_
                rintro e' w3 ⟨rfl, d3, hP, hQ, hS⟩
                have P3 : Aside (PermIn mid b d2 d3) := hP
                have Q3 : Aside (SortedIn (ltR r) mid b d3) := hQ
                have S4 : Aside (SW en w0 blk off d3 w3) := hS
                clear hP hQ hS K
                go_wp2
                go_end0
                have F := merged TT.out ZS.out CC.out (by rw [HD.out]; exact hb) (by omega) (by omega) RR.out P1.out P2.out Q2.out P3.out Q3.out
                exact ⟨rfl, d3, F.1, F.2, S4.out⟩
              · skip
                have t1 : (t : Int) < (m : Int) := by omega
                have t2 : (m : Int) < (e : Int) := by omega
                have t3 : (a : Int) < (t : Int) := by omega
                have t4 : (t : Int) < (mid : Int) := by omega
                have t5 : (mid : Int) < (e : Int) := by omega
                have t6 : ¬ (e : Int) < (b : Int) := by omega
                have hc := rotate_any (n := n) g cb blk off cap t m e sz d0 d w0 wr R hs S1.out HD.out (by omega) (by omega) (by omega) hsz
                have K := Lib.hid hc
                clear hc S1
                go_wp2_with fail
                refine K.out.mono ?_
                rintro e' w1 ⟨rfl, d1, hR, hP, hS⟩
                have RR : Aside (Rotated t m e d d1) := hR
                have P1 : Aside (PermIn t e d d1) := hP
                have S2 : Aside (SW en w0 blk off d1 w1) := hS
                clear hR hP hS K
                have HH : Aside (Two (ltR r) (fun x => x.val) a t mid d1 ∧ Two (ltR r) (fun x => x.val) mid e b d1 ∧ ∀ p q, a ≤ p → p < mid → mid ≤ q → q < b → ltR r d1[q]! d1[p]! = false) := cut_halves (fitsR r) TT.out ZS.out CC.out RR.out
                have hc := HI.out a t mid (by omega) (by omega) (by omega) (by omega) a t mid d1 w1 rfl rfl rfl (by rw [P1.out.1, HD.out]) HH.out.1 S2.out
                have K := Lib.hid hc
                clear hc S2
                go_wp2_with fail
                refine K.out.mono ?_
                rintro e' w2 ⟨rfl, d2, hP, hQ, hS⟩
                have P2 : Aside (PermIn a mid d1 d2) := hP
                have Q2 : Aside (SortedIn (ltR r) a mid d2) := hQ
                have S3 : Aside (SW en w0 blk off d2 w2) := hS
                clear hP hQ hS K
                have P3 : Aside (PermIn mid b d2 d2) := permIn_refl _ mid b
                have Q3 : Aside (SortedIn (ltR r) mid b d2) := no_left (HH.out.2.1.elsewhere (fun k h1 h2 => P2.out.2.1 k (Or.inr h1)) (by omega) (by omega)) (by omega)
                go_wp2
                go_end0
                have F := merged TT.out ZS.out CC.out (by rw [HD.out]; exact hb) (by omega) (by omega) RR.out P1.out P2.out Q2.out P3.out Q3.out
                exact ⟨rfl, d2, F.1, F.2, S3.out⟩
            · by_cases c4 : e < b
              · skip
                have t1 : (t : Int) < (m : Int) := by omega
                have t2 : (m : Int) < (e : Int) := by omega
                have t3 : ¬ (a : Int) < (t : Int) := by omega
                have t4 : (t : Int) < (mid : Int) := by omega
                have t5 : (mid : Int) < (e : Int) := by omega
                have t6 : (e : Int) < (b : Int) := by omega
                have hc := rotate_any (n := n) g cb blk off cap t m e sz d0 d w0 wr R hs S1.out HD.out (by omega) (by omega) (by omega) hsz
                have K := Lib.hid hc
                clear hc S1
                go_wp2_with fail
                refine K.out.mono ?_
                rintro e' w1 ⟨rfl, d1, hR, hP, hS⟩
                have RR : Aside (Rotated t m e d d1) := hR
                have P1 : Aside (PermIn t e d d1) := hP
                have S2 : Aside (SW en w0 blk off d1 w1) := hS
                clear hR hP hS K
                have HH : Aside (Two (ltR r) (fun x => x.val) a t mid d1 ∧ Two (ltR r) (fun x => x.val) mid e b d1 ∧ ∀ p q, a ≤ p → p < mid → mid ≤ q → q < b → ltR r d1[q]! d1[p]! = false) := cut_halves (fitsR r) TT.out ZS.out CC.out RR.out
                have P2 : Aside (PermIn a mid d1 d1) := permIn_refl _ a mid
                have Q2 : Aside (SortedIn (ltR r) a mid d1) := no_left HH.out.1 (by omega)
                have H3 : Aside (Two (ltR r) (fun x => x.val) mid e b d1) := HH.out.2.1.elsewhere (fun k h1 h2 => P2.out.2.1 k (Or.inr h1)) (by omega) (by omega)
                have hc := HI.out mid e b (by omega) (by omega) (by omega) (by omega) mid e b d1 w1 rfl rfl rfl (by rw [P2.out.1, P1.out.1, HD.out]) H3.out S2.out
                have K := Lib.hid hc
                clear hc S2
                go_wp2_with fail
                refine K.out.mono ?_
                rintro e' w3 ⟨rfl, d3, hP, hQ, hS⟩
                have P3 : Aside (PermIn mid b d1 d3) := hP
                have Q3 : Aside (SortedIn (ltR r) mid b d3) := hQ
                have S4 : Aside (SW en w0 blk off d3 w3) := hS
                clear hP hQ hS K
                go_wp2
                go_end0
                have F := merged TT.out ZS.out CC.out (by rw [HD.out]; exact hb) (by omega) (by omega) RR.out P1.out P2.out Q2.out P3.out Q3.out
                exact ⟨rfl, d3, F.1, F.2, S4.out⟩
              · skip
                have t1 : (t : Int) < (m : Int) := by omega
                have t2 : (m : Int) < (e : Int) := by omega
                have t3 : ¬ (a : Int) < (t : Int) := by omega
                have t4 : (t : Int) < (mid : Int) := by omega
                have t5 : (mid : Int) < (e : Int) := by omega
                have t6 : ¬ (e : Int) < (b : Int) := by omega
                have hc := rotate_any (n := n) g cb blk off cap t m e sz d0 d w0 wr R hs S1.out HD.out (by omega) (by omega) (by omega) hsz
                have K := Lib.hid hc
                clear hc S1
                go_wp2_with fail
                refine K.out.mono ?_
                rintro e' w1 ⟨rfl, d1, hR, hP, hS⟩
                have RR : Aside (Rotated t m e d d1) := hR
                have P1 : Aside (PermIn t e d d1) := hP
                have S2 : Aside (SW en w0 blk off d1 w1) := hS
                clear hR hP hS K
                have HH : Aside (Two (ltR r) (fun x => x.val) a t mid d1 ∧ Two (ltR r) (fun x => x.val) mid e b d1 ∧ ∀ p q, a ≤ p → p < mid → mid ≤ q → q < b → ltR r d1[q]! d1[p]! = false) := cut_halves (fitsR r) TT.out ZS.out CC.out RR.out
                have P2 : Aside (PermIn a mid d1 d1) := permIn_refl _ a mid
                have Q2 : Aside (SortedIn (ltR r) a mid d1) := no_left HH.out.1 (by omega)
                have P3 : Aside (PermIn mid b d1 d1) := permIn_refl _ mid b
                have Q3 : Aside (SortedIn (ltR r) mid b d1) := no_left (HH.out.2.1.elsewhere (fun k h1 h2 => P2.out.2.1 k (Or.inr h1)) (by omega) (by omega)) (by omega)
                go_wp2
                go_end0
                have F := merged TT.out ZS.out CC.out (by rw [HD.out]; exact hb) (by omega) (by omega) RR.out P1.out P2.out Q2.out P3.out Q3.out
                exact ⟨rfl, d1, F.1, F.2, S2.out⟩
          · skip
            have t1 : (t : Int) < (m : Int) := by omega
            have t2 : ¬ (m : Int) < (e : Int) := by omega
            have t3 : (a : Int) < (t : Int) := by omega
            have t4 : ¬ (t : Int) < (mid : Int) := by omega
            have t5 : (mid : Int) < (e : Int) := by omega
            have t6 : (e : Int) < (b : Int) := by omega
            have RR : Aside (Rotated t m e d d) := rotated_none d (by omega) (by omega) (by omega)
            have P1 : Aside (PermIn t e d d) := permIn_refl d t e
            have HH : Aside (Two (ltR r) (fun x => x.val) a t mid d ∧ Two (ltR r) (fun x => x.val) mid e b d ∧ ∀ p q, a ≤ p → p < mid → mid ≤ q → q < b → ltR r d[q]! d[p]! = false) := cut_halves (fitsR r) TT.out ZS.out CC.out RR.out
            have P2 : Aside (PermIn a mid d d) := permIn_refl _ a mid
            have Q2 : Aside (SortedIn (ltR r) a mid d) := no_left HH.out.1 (by omega)
            have H3 : Aside (Two (ltR r) (fun x => x.val) mid e b d) := HH.out.2.1.elsewhere (fun k h1 h2 => P2.out.2.1 k (Or.inr h1)) (by omega) (by omega)
            have hc := HI.out mid e b (by omega) (by omega) (by omega) (by omega) mid e b d wr rfl rfl rfl (by rw [P2.out.1, P1.out.1, HD.out]) H3.out S1.out
            have K := Lib.hid hc
            clear hc S1
            go_wp2_with fail
            refine K.out.mono ?_
            rintro e' w3 ⟨rfl, d3, hP, hQ, hS⟩
            have P3 : Aside (PermIn mid b d d3) := hP
            have Q3 : Aside (SortedIn (ltR r) mid b d3) := hQ
            have S4 : Aside (SW en w0 blk off d3 w3) := hS
            clear hP hQ hS K
            go_wp2
            go_end0
            have F := merged TT.out ZS.out CC.out (by rw [HD.out]; exact hb) (by omega) (by omega) RR.out P1.out P2.out Q2.out P3.out Q3.out
            exact ⟨rfl, d3, F.1, F.2, S4.out⟩
        · exfalso; omega
end Go.Proofs.YtamccmeibnihpaaGreatDoor
