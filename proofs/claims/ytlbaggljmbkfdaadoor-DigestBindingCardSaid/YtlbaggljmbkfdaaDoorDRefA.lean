/-
  The reference's bytes: contracts of eight, Leaf, Pair, Ints; and of bytes.
-/
import Derived.Test.YtlbaggljmbkfdaaDoorDInts
namespace Go.Proofs.YtlbaggljmbkfdaaDoor
open Go.RowKit Dg

/-- Bytes that came out. -/
def OutB (L : List Nat) (w : World) (e : Ending) (w' : World) : Prop := ∃ v, e = .returned v ∧ OutS u8v w' v L ∧ RowKit.Below w.heap.size w w'
theorem OutB.not_nil {L : List Nat} {w w' : World} {e : Ending} (h : OutB L w e w') (hL : 0 < L.length) : ∃ b cap, e = .returned (.slice (some ⟨b, 0, none⟩) L.length cap) ∧ SlF u8v w' (some ⟨b, 0, none⟩) b 0 L.length L ∧ L.length ≤ cap ∧ RowKit.Below w.heap.size w w' := by
  obtain ⟨v, rfl, ⟨q, b, cap, rfl, hs, hc⟩, hB⟩ := h
  have := hs.ptr hL
  subst this
  exact ⟨b, cap, rfl, hs, hc, hB⟩
theorem SlF.news {α : Type} {f : α → Value} {w : World} {p : Option Addr} {b len : Nat} {l : List α} (h : SlF f w p b 0 len l) : ∀ (j : Nat) (hj : j < l.length), w.cell? ((⟨b, 0, none⟩ : Addr).add j) = some (f l[j]) := fun j hj => by rw [addr_add]; exact h.cells j hj

theorem by8_take (n m : Nat) (h : m < 8) : (by8 n).take (m + 1) = (by8 n).take m ++ [n / 2 ^ (8 * (7 - m)) % 256] := by
  rw [List.take_succ_eq_append_getElem (by rw [by8_len]; exact h), ← byA_at n m (by rw [by8_len]; exact h)]; rfl
set_option maxRecDepth 100000 in
set_option maxHeartbeats 1000000 in
theorem eight_any (n : Nat) (w : World) : Calls Tryd.prog 44 #[.int .u64 n] w fun e w' => OutB (by8 n) w e w' := by
  go_enter Tryd.func44, Tryd.ntmps44
  go_wp2_with fail
  go_loopg [3, 4] 9 (fun g s3 s4 wr => ∃ (m : Nat) (kk : Int), s4 = .int .i64 kk ∧ kk = 56 - 8 * (m : Int) ∧ m ≤ 8 ∧ 9 - m ≤ g ∧ Hid (Own 5 u8v wr w.heap.size s3 ((by8 n).take m)) ∧ Hid (RowKit.Below w.heap.size w wr))
  case atStart => exact ⟨0, 56, rfl, rfl, by omega, by omega, Own.empty, Below.refl _ _⟩
  case round =>
    obtain ⟨m, kk, rfl, hkk, hm, hg, HO, HB⟩ := hrel
    by_cases hlt : m < 8
    · obtain ⟨K, hK⟩ : ∃ K, K = 8 * (7 - m) := ⟨_, rfl⟩
      have hKz : kk = (K : Int) := by omega
      have hlen : ((by8 n).take m).length = m := by rw [List.length_take, by8_len]; omega
      have HT := Lib.hid (by8_take n m hlt)
      rw [← hK] at HT
      have hK64 : K < 64 := by omega
      have HKn : Hid ((K : Int) - 8 = 56 - 8 * ((m + 1 : Nat) : Int)) := by show _ = _; omega
      have HO1 := HO.out
      have HO := Lib.hid HO1
      have hl8 : ((by8 n).take m).length ≤ 8 := by omega
      have E : (n : Int) / 2 ^ K % 256 = ((n / 2 ^ K % 256 : Nat) : Int) := by simp
      generalize (by8 n).take m = P at *
      generalize n / 2 ^ K % 256 = y at *
      clear hK HO1
      subst hKz
      clear hkk
      go_wp2_with (first | (at_builtin; refine list_app (f := u8v) el8 u8_one rfl _ _ rfl w.heap.size u3 P rfl (HO.out.alloc _) ⟨_, 0, none⟩ 1 1 [y] rfl rfl (news1 (f := u8v) wr y _) (by omega) (by have := HB.out.size; rw [World.size_alloc]; omega) ?_; intro v5 W5 own5 grow5 _) | fail)
      have HB5 := Lib.hid ((HB.out.alloc HB.out.size (.cells #[.int .u8 (y : Int)] 5)).grown grow5 (by have := HB.out.size; rw [World.size_alloc]; omega) HO.out.block)
      rw [← HT.out] at own5
      have HO5 := Lib.hid own5
      clear own5 grow5
      go_wp2
      go_roundg (9 - (m + 1))
      case measure => omega
      case rel => exact ⟨m + 1, _, rfl, HKn.out, by omega, by omega, HO5.out, HB5.out⟩
    · obtain rfl : m = 8 := by omega
      have hkn : kk < 0 := by omega
      have E : (by8 n).take 8 = by8 n := List.take_of_length_le (by rw [by8_len]; omega)
      have HF : Hid (OutB (by8 n) w (.returned u3) wr) := by
        have h := HO.out
        rw [E] at h
        exact ⟨_, rfl, h.reads (by rw [by8_len]; omega), HB.out⟩
      clear E
      go_wp2
      go_ret
      exact HF.out
set_option maxRecDepth 100000 in
set_option maxHeartbeats 400000 in
theorem rleaf_any (x : Nat) (w : World) : Calls Tryd.prog 39 #[.int .u64 x] w fun e w' => e = .returned (.int .u64 (lfN x : Nat)) ∧ RowKit.Below w.heap.size w w' := by
  have K := Lib.hid (fun w => eight_any x w)
  have KS := Lib.hid (fun w p b off cap len hS hB => rsum_any (lfB x) p b off cap len w hS hB)
  have HLF : Hid ([0] ++ by8 x = lfB x) := rfl
  have HE : Hid (lfN x = dig (lfB x)) := rfl
  have HBY : Hid (Bytes (lfB x)) := fun c hc => by
    rcases List.mem_cons.1 hc with rfl | hc
    · decide
    · exact by8_bytes x c hc
  have HL : Hid ((lfB x).length = 9) := rfl
  have HL8 : Hid ((by8 x).length = 8) := rfl
  have HO := Lib.hid (Own.new w [0] 5 u8v (by decide))
  generalize lfB x = L at *
  generalize lfN x = y at *
  go_enter Tryd.func39, Tryd.ntmps39
  go_wp2_with fail
  refine (K.out _).mono ?_
  intro _ w1 hO
  obtain ⟨b, cap, rfl, hs, hc, hB⟩ := hO.not_nil (by rw [HL8.out]; decide)
  have HB1 : Hid (RowKit.Below w.heap.size w w1) := ((Below.refl _ _).alloc (Nat.le_refl _) _).trans (hB.mono (by simp))
  have HO1 := Lib.hid (HO.out.below hB)
  have HNW := Lib.hid hs.news
  clear hs hc hB hO HO
  generalize by8 x = P at *
  go_wp2_with (first | (at_builtin; refine list_app (f := u8v) el8 u8_one rfl _ _ rfl w.heap.size (.slice (some ⟨w.heap.size, 0, none⟩) 1 1) [0] rfl HO1.out ⟨b, 0, none⟩ P.length cap P rfl rfl HNW.out (by rw [HL8.out]; decide) HB1.out.size ?_; intro v5 W5 own5 grow5 _) | fail)
  have HB5 := Lib.hid (HB1.out.grown grow5 HB1.out.size HO1.out.block)
  rw [HLF.out] at own5
  obtain ⟨q5, b5, cap5, rfl, hs5, hc5⟩ := own5.reads (by rw [HL.out]; decide)
  have HS5 := Lib.hid hs5
  clear own5 grow5 hs5
  go_wp2_with fail
  refine (KS.out W5 q5 b5 0 cap5 L.length HS5.out HBY.out).mono ?_
  rintro _ w6 ⟨rfl, rfl⟩
  go_wp2
  go_ret
  exact ⟨ret_u64 (by rw [HE.out]), HB5.out⟩
set_option maxRecDepth 100000 in
set_option maxHeartbeats 1000000 in
theorem rpair_any (x y : Nat) (w : World) : Calls Tryd.prog 40 #[.int .u64 x, .int .u64 y] w fun e w' => e = .returned (.int .u64 (prN x y : Nat)) ∧ RowKit.Below w.heap.size w w' := by
  have K := Lib.hid (fun w => eight_any x w)
  have K2 := Lib.hid (fun w => eight_any y w)
  have KS := Lib.hid (fun w p b off cap len hS hB => rsum_any (prB x y) p b off cap len w hS hB)
  have HLF : Hid ([1] ++ by8 x ++ by8 y = prB x y) := rfl
  have HE : Hid (prN x y = dig (prB x y)) := rfl
  have HBY : Hid (Bytes (prB x y)) := fun c hc => by
    rcases List.mem_cons.1 hc with rfl | hc
    · decide
    · rcases List.mem_append.1 hc with hc | hc
      · exact by8_bytes x c hc
      · exact by8_bytes y c hc
  have HL : Hid ((prB x y).length = 17) := rfl
  have HL8 : Hid ((by8 x).length = 8) := rfl
  have HL8y : Hid ((by8 y).length = 8) := rfl
  have HO := Lib.hid (Own.new w [1] 5 u8v (by decide))
  generalize prB x y = L at *
  generalize prN x y = z at *
  go_enter Tryd.func40, Tryd.ntmps40
  go_wp2_with fail
  refine (K.out _).mono ?_
  intro _ w1 hO
  obtain ⟨b, cap, rfl, hs, hc, hB⟩ := hO.not_nil (by rw [HL8.out]; decide)
  have HB1 : Hid (RowKit.Below w.heap.size w w1) := ((Below.refl _ _).alloc (Nat.le_refl _) _).trans (hB.mono (by simp))
  have HO1 := Lib.hid (HO.out.below hB)
  have HNW := Lib.hid hs.news
  clear hs hc hB hO HO
  generalize by8 x = P at *
  go_wp2_with (first | (at_builtin; refine list_app (f := u8v) el8 u8_one rfl _ _ rfl w.heap.size (.slice (some ⟨w.heap.size, 0, none⟩) 1 1) [1] rfl HO1.out ⟨b, 0, none⟩ P.length cap P rfl rfl HNW.out (by rw [HL8.out]; decide) HB1.out.size ?_; intro v5 W5 own5 grow5 _) | fail)
  have HB5 := Lib.hid (HB1.out.grown grow5 HB1.out.size HO1.out.block)
  have HO5 := Lib.hid own5
  clear own5 grow5
  go_wp2_with fail
  refine (K2.out _).mono ?_
  intro _ w6 hO
  obtain ⟨b6, cap6, rfl, hs, hc, hB⟩ := hO.not_nil (by rw [HL8y.out]; decide)
  have HB6 := Lib.hid (HB5.out.trans (hB.mono HB5.out.size))
  have HO6 := Lib.hid (HO5.out.below hB)
  have HNW6 := Lib.hid hs.news
  clear hs hc hB hO HO5
  generalize by8 y = P2 at *
  have hlen : ([1] ++ P).length + P2.length ≤ 1000 := by rw [List.length_append, HL8.out, HL8y.out]; decide
  go_wp2_with (first | (at_builtin; refine list_app (f := u8v) el8 u8_one rfl _ _ rfl w.heap.size v5 ([1] ++ P) rfl HO6.out ⟨b6, 0, none⟩ P2.length cap6 P2 rfl rfl HNW6.out (by omega) HB6.out.size ?_; intro v7 W7 own7 grow7 _) | fail)
  have HB7 := Lib.hid (HB6.out.grown grow7 HB6.out.size HO6.out.block)
  rw [HLF.out] at own7
  obtain ⟨q5, b5, cap5, rfl, hs5, hc5⟩ := own7.reads (by rw [HL.out]; decide)
  have HS5 := Lib.hid hs5
  clear own7 grow7 hs5
  go_wp2_with fail
  refine (KS.out W7 q5 b5 0 cap5 L.length HS5.out HBY.out).mono ?_
  rintro _ w8 ⟨rfl, rfl⟩
  go_wp2
  go_ret
  exact ⟨ret_u64 (by rw [HE.out]), HB7.out⟩

theorem blk_take {l : List Nat} {k : Nat} (hk : k < l.length) : blk (l.take (k + 1)) = blk (l.take k) ++ by8 l[k] := by
  have h : ∀ a b : List Nat, blk (a ++ b) = blk a ++ blk b := fun a b => by
    induction a with
    | nil => rfl
    | cons x a ih => rw [List.cons_append, blk, blk, ih, List.append_assoc]
  rw [List.take_succ_eq_append_getElem hk, h, blk, blk, List.append_nil]
set_option maxRecDepth 100000 in
set_option maxHeartbeats 2000000 in
theorem bytes_any (c : Nat) (l : List Nat) (p : Option Addr) (b off cap len : Nat) (w : World) (hS : SlF u64v w p b off len l) (hn : len ≤ 1000) :
    Calls Tryd.prog 23 #[.int .u8 c, .slice p len cap] w fun e w' => OutB (c :: blk l) w e w' := by
  have HS := Lib.hid hS
  have hm := hS.max
  have HL := Lib.hid hS.ln
  have HO0 := Lib.hid (Own.new w [c] 5 u8v (by simp))
  have HB0 : Hid (RowKit.Below w.heap.size w (w.alloc (.cells ([c].map u8v).toArray 5))) := (Below.refl _ _).alloc (Nat.le_refl _) _
  clear hS
  go_enter Tryd.func23, Tryd.ntmps23
  go_wp2_with fail
  go_loopg [5, 13] len (fun g s5 s13 wr => ∃ k : Nat, s13 = .int .i64 k ∧ k ≤ len ∧ len - k ≤ g ∧ Hid (Own 5 u8v wr w.heap.size s5 (c :: blk (l.take k))) ∧ Hid (RowKit.Below w.heap.size w wr))
  case atStart => exact ⟨0, rfl, by omega, by omega, HO0.out, HB0.out⟩
  case round =>
    obtain ⟨k, rfl, hk, hkg, HO, HB⟩ := hrel
    clear HO0 HB0
    by_cases hlt : k < len
    · have hltz : (k : Int) < (len : Int) := by omega
      have hp1 := HS.out.ptr (by omega)
      have hkl : k < l.length := by rw [HL.out]; exact hlt
      have c1 := (HS.out.bel HB.out).cells k hkl
      have HBK := Lib.hid (blk_take hkl)
      have hln : (c :: blk (l.take k)).length = 1 + 8 * k := by rw [List.length_cons, blk_len, List.length_take]; omega
      have HLN := Lib.hid hln
      obtain ⟨n, hn'⟩ : ∃ n, n = l[k] := ⟨_, rfl⟩
      rw [← hn'] at c1 HBK
      unfold u64v at c1
      clear hn' hln
      subst hp1
      obtain ⟨wo, rfl⟩ : ∃ wo : World, wo = wr := ⟨_, rfl⟩
      go_wp2_with fail
      go_loopg [5, 8] 9 (fun g s5 s8 wr => ∃ (m : Nat) (kk : Int), s8 = .int .i64 kk ∧ kk = 56 - 8 * (m : Int) ∧ m ≤ 8 ∧ 9 - m ≤ g ∧ Hid (Own 5 u8v wr w.heap.size s5 ((c :: blk (l.take k)) ++ (by8 n).take m)) ∧ Hid (RowKit.Below w.heap.size w wr))
      case atStart => exact ⟨0, 56, rfl, rfl, by omega, by omega, by show Own _ _ _ _ _ _; rw [List.take_zero, List.append_nil]; exact HO.out, HB.out⟩
      case round =>
        obtain ⟨m, kk, rfl, hkk, hmm, hg, HO2, HB2⟩ := hrel
        by_cases hlt2 : m < 8
        · obtain ⟨K, hK⟩ : ∃ K, K = 8 * (7 - m) := ⟨_, rfl⟩
          have hKz : kk = (K : Int) := by omega
          have hlen : ((by8 n).take m).length = m := by rw [List.length_take, by8_len]; omega
          have HT := Lib.hid (by8_take n m hlt2)
          rw [← hK] at HT
          have hK64 : K < 64 := by omega
          have HKn : Hid ((K : Int) - 8 = 56 - 8 * ((m + 1 : Nat) : Int)) := by show _ = _; omega
          have hl8 : ((c :: blk (l.take k)) ++ (by8 n).take m).length ≤ 100000 := by rw [List.length_append, HLN.out]; omega
          have E : (n : Int) / 2 ^ K % 256 = ((n / 2 ^ K % 256 : Nat) : Int) := by simp
          generalize (by8 n).take m = P at *
          generalize n / 2 ^ K % 256 = y at *
          generalize hQ : (c :: blk (l.take k)) ++ P = Q at *
          have HQ := Lib.hid hQ
          clear hK hlen hQ
          subst hKz
          clear hkk
          go_wp2_with (first | (at_builtin; refine list_app (f := u8v) el8 u8_one rfl _ _ rfl w.heap.size u5 Q rfl (HO2.out.alloc _) ⟨_, 0, none⟩ 1 1 [y] rfl rfl (news1 (f := u8v) wr y _) (by omega) (by have := HB2.out.size; rw [World.size_alloc]; omega) ?_; intro v5 W5 own5 grow5 _) | fail)
          have HB5 := Lib.hid ((HB2.out.alloc HB2.out.size (.cells #[.int .u8 (y : Int)] 5)).grown grow5 (by have := HB2.out.size; rw [World.size_alloc]; omega) HO2.out.block)
          rw [← HQ.out, List.append_assoc, ← HT.out] at own5
          have HO5 := Lib.hid own5
          clear own5 grow5
          go_wp2
          go_roundg (9 - (m + 1))
          case measure => omega
          case rel => exact ⟨m + 1, _, rfl, HKn.out, by omega, by omega, HO5.out, HB5.out⟩
        · obtain rfl : m = 8 := by omega
          have hkn : kk < 0 := by omega
          have E : (c :: blk (l.take k)) ++ (by8 n).take 8 = c :: blk (l.take (k + 1)) := by
            have e8 : (by8 n).take 8 = by8 n := List.take_of_length_le (by rw [by8_len]; omega)
            rw [HBK.out, e8, List.cons_append]
          have h := HO2.out
          rw [E] at h
          have HF := Lib.hid h
          clear E h
          go_wp2
          go_roundg (len - (k + 1))
          case measure => omega
          case rel => exact ⟨k + 1, by go_num, by omega, by omega, HF.out, HB2.out⟩
    · have hltz : ¬ (k : Int) < (len : Int) := by omega
      have E : l.take k = l := List.take_of_length_le (by have := HL.out; omega)
      have h := HO.out
      rw [E] at h
      have HF : Hid (OutB (c :: blk l) w (.returned u5) wr) := ⟨_, rfl, h.reads (by rw [List.length_cons, blk_len, HL.out]; omega), HB.out⟩
      clear E h
      go_wp2
      go_ret
      exact HF.out
set_option maxRecDepth 100000 in
set_option maxHeartbeats 2000000 in
theorem rints_any (l : List Int) (p : Option Addr) (b off cap len : Nat) (w : World) (hS : SlF i64v w p b off len l) (hI : I64s l) (hn : len ≤ 1000) :
    Calls Tryd.prog 14 #[.slice p len cap] w fun e w' => e = .returned (.int .u64 (dig (txs l) : Nat)) ∧ RowKit.Below w.heap.size w w' := by
  have HS := Lib.hid hS
  have HI := Lib.hid hI
  have hm := hS.max
  have HL := Lib.hid hS.ln
  have HLN : Hid (∀ k, k ≤ len → (txs (l.take k)).length ≤ 22 * k) := fun k hk => by
    have h : ∀ a : List Int, I64s a → (txs a).length ≤ 22 * a.length := fun a => by
      induction a with
      | nil => intro _; exact Nat.le_refl _
      | cons x a ih =>
        intro h
        have := ih (fun y hy => h y (by simp [hy]))
        have h2 := h x (by simp)
        have h3 := Lib.itoa_length_le x h2.1 h2.2
        rw [txs, List.length_append, nb_len, List.length_cons]
        unfold txn
        rw [List.length_append, List.length_singleton]
        omega
    have := h (l.take k) (fun x hx => hI x (List.mem_of_mem_take hx))
    rw [List.length_take] at this
    have h4 : min k l.length ≤ k := Nat.min_le_left _ _
    omega
  clear hS hI
  go_enter Tryd.func14, Tryd.ntmps14
  go_wp2_with fail
  go_loopg [3, 4] len (fun g s3 s4 wr => ∃ k : Nat, s4 = .int .i64 k ∧ k ≤ len ∧ len - k ≤ g ∧ Hid (Own 5 u8v wr w.heap.size s3 (txs (l.take k))) ∧ Hid (RowKit.Below w.heap.size w wr))
  case atStart => exact ⟨0, rfl, by omega, by omega, Own.empty, Below.refl _ _⟩
  case round =>
    obtain ⟨k, rfl, hk, hkg, HO, HB⟩ := hrel
    by_cases hlt : k < len
    · have hltz : (k : Int) < (len : Int) := by omega
      have hp1 := HS.out.ptr (by omega)
      have hkl : k < l.length := by rw [HL.out]; exact hlt
      have c1 := (HS.out.bel HB.out).cells k hkl
      have hc := HI.out _ (List.getElem_mem hkl)
      have HT := Lib.hid (txs_take hkl)
      have h22 := HLN.out k hk
      generalize l[k] = c at *
      unfold i64v at c1
      have hl := Lib.itoa_length_le c hc.1 hc.2
      have KI := Lib.hid (fun w => decimal_any c w hc.1 hc.2)
      have HTX : Hid (nb (Lib.itoa c) ++ [32] = nb (txn c)) := by show _ = _; unfold txn; rw [nb_app]; rfl
      have hnl : (nb (Lib.itoa c)).length ≤ 21 := by rw [nb_len]; exact hl
      generalize Lib.itoa c = sI at *
      generalize hQ : txs (l.take k) = Q at *
      clear hQ
      subst hp1
      go_wp2_with fail
      refine (KI.out _).mono ?_
      rintro _ w1 ⟨rfl, hb1⟩
      have HB1 := Lib.hid (HB.out.trans (hb1.mono HB.out.size))
      have HO1 := Lib.hid (HO.out.below hb1)
      clear hb1
      have HLQ : Hid ((Q ++ nb sI).length + 1 ≤ 1000000) := by show _ ≤ _; rw [List.length_append]; omega
      have HNW : Hid (∀ W5 : World, ∀ (j : Nat) (h : j < [32].length), (W5.alloc (.cells #[.int .u8 32] 5)).cell? ((⟨W5.heap.size, 0, none⟩ : Addr).add j) = some (u8v [32][j])) := fun W5 => news1 (f := u8v) W5 32 _
      go_wp2_with (first | (at_builtin; refine list_app_str rfl _ _ rfl w.heap.size u3 Q rfl HO1.out sI rfl (by omega) HB1.out.size ?_; intro v5 W5 own5 grow5; have HB5 := Lib.hid (HB1.out.grown grow5 HB1.out.size HO1.out.block); have HO5 := Lib.hid own5; clear own5 grow5) | (at_builtin; refine list_app (f := u8v) el8 u8_one rfl _ _ rfl w.heap.size v5 (Q ++ nb sI) rfl (HO5.out.alloc _) ⟨W5.heap.size, 0, none⟩ 1 1 [32] rfl rfl (HNW.out W5) HLQ.out (by have := HB5.out.size; rw [World.size_alloc]; omega) ?_; intro v6 W6 own6 grow6 _) | fail)
      have HB6 := Lib.hid ((HB5.out.alloc HB5.out.size (.cells #[.int .u8 32] 5)).grown grow6 (by have := HB5.out.size; rw [World.size_alloc]; omega) HO5.out.block)
      rw [List.append_assoc, HTX.out, ← HT.out] at own6
      have HO6 := Lib.hid own6
      clear own6 grow6
      go_wp2
      go_roundg (len - (k + 1))
      case measure => omega
      case rel => exact ⟨k + 1, by go_num, by omega, by omega, HO6.out, HB6.out⟩
    · have hltz : ¬ (k : Int) < (len : Int) := by omega
      have E : l.take k = l := List.take_of_length_le (by have := HL.out; omega)
      have h := HO.out
      have h22 := HLN.out k hk
      rw [E] at h h22
      have HBY := Lib.hid (txs_bytes l)
      have KS := Lib.hid (fun w p b off cap len hS hB => rsum_any (txs l) p b off cap len w hS hB)
      obtain ⟨q5, b5, cap5, rfl, hs5, hc5⟩ := h.reads (by omega)
      have HS5 := Lib.hid hs5
      clear E h hs5 h22 HO
      obtain ⟨L, hL⟩ : ∃ L, L = txs l := ⟨_, rfl⟩
      rw [← hL] at HBY KS HS5 ⊢
      have HLX := Lib.hid hL
      clear hL
      go_wp2_with fail
      refine (KS.out wr q5 b5 0 cap5 L.length HS5.out HBY.out).mono ?_
      rintro _ w8 ⟨rfl, rfl⟩
      go_wp2
      go_ret
      exact ⟨ret_u64 (by rw [HLX.out]), HB.out⟩
end Go.Proofs.YtlbaggljmbkfdaaDoor
