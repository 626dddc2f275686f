/-
  The law on numbers: Ints is the digest of their text; if the last digit of a number from 0 to 2^62 is replaced by another one, the digest is another one.
-/
import Derived.Test.YtlbaggljmbkfdaaDoorDCopy
namespace Go.Proofs.YtlbaggljmbkfdaaDoor
open Go.RowKit Dg

/-- The text of numbers. -/
def txl : List Int → List UInt8
  | [] => []
  | n :: l => txn n ++ txl l
theorem txl_app : ∀ l k, txl (l ++ k) = txl l ++ txl k
  | [], _ => rfl
  | n :: l, k => by rw [List.cons_append, txl, txl, txl_app, List.append_assoc]
theorem txl_take {l : List Int} {k : Nat} (hk : k < l.length) : txl (l.take (k + 1)) = txl (l.take k) ++ txn l[k] := by
  rw [List.take_succ_eq_append_getElem hk, txl_app, txl, txl, List.append_nil]
theorem nb_txl : ∀ l, nb (txl l) = txs l
  | [] => rfl
  | n :: l => by rw [txl, txs, nb_app, nb_txl]
theorem txl_len : ∀ l, I64s l → (txl l).length ≤ 22 * l.length
  | [], _ => Nat.le_refl _
  | n :: l, h => by
    have ih := txl_len l (fun x hx => h x (by simp [hx]))
    have h2 := h n (by simp)
    have h3 := Lib.itoa_length_le n h2.1 h2.2
    rw [txl, List.length_append, List.length_cons]
    unfold txn
    rw [List.length_append, List.length_singleton]
    omega
/-- The last digit. -/
theorem itoa_last (n : Nat) : Lib.itoa n = (if n < 10 then [] else Lib.decDigits (n / 10)) ++ [UInt8.ofNat (48 + n % 10)] := by
  rw [itoa_nat]
  by_cases h : n < 10
  · rw [if_pos h, dec_small h, Nat.mod_eq_of_lt h]; rfl
  · rw [if_neg h, dec_big (by omega)]
theorem digit_nat {d : Nat} (h : d < 10) : (UInt8.ofNat (48 + d)).toNat = 48 + d := by
  have : ∀ k : Fin 10, (UInt8.ofNat (48 + k.val)).toNat = 48 + k.val := by decide
  exact this ⟨d, h⟩
theorem conv_sl2 (w : World) (l : List UInt8) (c : Nat) (fr : Nat × Nat) (h : l.length ≤ 1000000) : SlF u8v (w.alloc (.cells (bytesRow (bs l) c) 5 fr)).drew (some ⟨w.heap.size, 0, none⟩) w.heap.size 0 (bs l).size (nb l) := by
  refine ⟨by rw [nb_len, bs_size], fun _ => rfl, fun k hk => ?_, fun _ => by simp, by rw [bs_size]; omega⟩
  have hk2 : k < (bs l).data.size := by rw [nb_len] at hk; simpa [bs] using hk
  have h1 := bytesRow_at (bs l) c k hk2
  have h2 : (w.alloc (.cells (bytesRow (bs l) c) 5 fr)).drew.heap[w.heap.size]? = some (.cells (bytesRow (bs l) c) 5 fr) := by
    show (w.heap.push _)[w.heap.size]? = _
    simp
  unfold World.cell?
  simp only [Nat.zero_add, h2]
  simpa [u8v, nb, bs] using h1
theorem txs_set {l : List Int} {k : Nat} (hk : k < l.length) {n d : Nat} (hn : l[k] = (n : Int)) (hd : d < 10) (hne : n % 10 ≠ d) : dig (txs (l.set k ((n - n % 10 + d : Nat) : Int))) ≠ dig (txs l) := by
  have e1 : l = l.take k ++ (n : Int) :: l.drop (k + 1) := by rw [← hn, List.getElem_cons_drop, List.take_append_drop]
  have e2 : l.set k ((n - n % 10 + d : Nat) : Int) = l.take k ++ ((n - n % 10 + d : Nat) : Int) :: l.drop (k + 1) := by rw [List.set_eq_take_append_cons_drop, if_pos hk]
  have t1 : txs l = (txs (l.take k) ++ nb (if n < 10 then [] else Lib.decDigits (n / 10))) ++ (48 + n % 10) :: (32 :: txs (l.drop (k + 1))) := by
    conv => lhs; rw [e1]
    rw [txs_app, txs, txn, itoa_last, nb_app, nb_app]
    simp [nb]
    omega
  have t2 : txs (l.set k ((n - n % 10 + d : Nat) : Int)) = (txs (l.take k) ++ nb (if n < 10 then [] else Lib.decDigits (n / 10))) ++ (48 + d) :: (32 :: txs (l.drop (k + 1))) := by
    rw [e2, txs_app, txs, txn, itoa_last, nb_app, nb_app, show (n - n % 10 + d) / 10 = n / 10 by omega, show (n - n % 10 + d) % 10 = d by omega]
    have e3 : (if n - n % 10 + d < 10 then ([] : List UInt8) else Lib.decDigits (n / 10)) = if n < 10 then [] else Lib.decDigits (n / 10) := by
      by_cases h : n < 10
      · rw [if_pos h, if_pos (by omega)]
      · rw [if_neg h, if_neg (by omega)]
    rw [e3]
    simp [nb]
    omega
  intro h
  rw [t1, t2] at h
  have hb : Bytes (32 :: txs (l.drop (k + 1))) := fun c hc => by
    rcases List.mem_cons.1 hc with rfl | hc
    · decide
    · exact txs_bytes _ c hc
  have := dig_one hb (by omega) (by omega) h
  omega

set_option maxRecDepth 100000 in
set_option maxHeartbeats 1000000 in
theorem numbers_law (l : List Int) (p : Option Addr) (b off cap len : Nat) (at' : Int) (y : Nat) (w : World) (hS : SlF i64v w p b off len l) (hI : I64s l) (hy : y < 256) (hT : Tab w) :
    Calls Tryd.prog 5 #[.slice p len cap, .int .i64 at', .int .u8 y] w fun e w' => e = .returned (.bool true) ∧ RowKit.Below w.heap.size w w' := by
  have HSL := Lib.hid hS
  have HT0 := Lib.hid hT
  have HI := Lib.hid hI
  have hmx := hS.max
  have HL := Lib.hid hS.ln
  clear hS hI
  by_cases g0 : 100 < len
  · have hz : (100 : Int) < (len : Int) := by omega
    have HB0 : Hid (RowKit.Below w.heap.size w w) := Below.refl _ _
    go_enter Tryd.func5, Tryd.ntmps5
    go_wp2_with fail
    refine (head_any _ HT0.out).mono ?_
    rintro _ w1 ⟨rfl, hb⟩
    have HB1 := Lib.hid (HB0.out.trans (hb.mono HB0.out.size))
    have HT1 := Lib.hid (HT0.out.below hb)
    clear hb
    go_wp2
    go_ret
    exact ⟨rfl, HB1.out⟩
  have hz100 : ¬ (100 : Int) < (len : Int) := by omega
  obtain ⟨D, hD⟩ : ∃ D, D = dig (txs l) := ⟨_, rfl⟩
  have HD : Hid (dig (txs l) = D) := hD.symm
  have hcv := fun w s => run_bytes_of_string (P := Tryd.prog) w 9 22 5 s Tryd.underlying9 Tryd.underlying22 Tryd.underlying5
  have HLN : Hid (∀ k, k ≤ len → (txl (l.take k)).length ≤ 22 * k) := fun k hk => by
    have := txl_len (l.take k) (fun x hx => HI.out x (List.mem_of_mem_take hx))
    rw [List.length_take] at this
    have h4 : min k l.length ≤ k := Nat.min_le_left _ _
    omega
  clear hD
  by_cases hl0 : len = 0
  · have hz0 : ((len : Int) == 0) = true := by rw [beq_iff_eq]; omega
    have HL0 := Lib.hid hl0
    clear hl0
    have HB0 : Hid (RowKit.Below w.heap.size w w) := Below.refl _ _
    go_enter Tryd.func5, Tryd.ntmps5
    go_wp2_with fail
    refine (head_any _ HT0.out).mono ?_
    rintro _ w1 ⟨rfl, hb⟩
    have HB1 := Lib.hid (HB0.out.trans (hb.mono HB0.out.size))
    have HT1 := Lib.hid (HT0.out.below hb)
    have HL1 := Lib.hid (HSL.out.bel hb)
    clear hb
    go_wp2_with fail
    go_loopg [8, 22] len (fun g s8 s22 wr => ∃ k : Nat, s22 = .int .i64 k ∧ k ≤ len ∧ len - k ≤ g ∧ s8 = .string (bs (txl (l.take k))) ∧ Hid (RowKit.Below w1.heap.size w1 wr))
    case atStart => exact ⟨0, rfl, by omega, by omega, rfl, Below.refl _ _⟩
    case round =>
      obtain ⟨k, rfl, hk, hkg, rfl, HB⟩ := hrel
      have h22 := HLN.out k hk
      by_cases hlt : k < len
      · have hltz : (k : Int) < (len : Int) := by omega
        exact absurd hlt (by have := HL0.out; omega)
      · have hltz : ¬ (k : Int) < (len : Int) := by omega
        have E : l.take k = l := List.take_of_length_le (by have := HL.out; omega)
        rw [E] at h22 ⊢
        clear E
        have hb := HB.out
        have HB20 := Lib.hid (HB1.out.trans (hb.mono HB1.out.size))
        have HT20 := Lib.hid (HT1.out.below hb)
        have HL20 := Lib.hid (HL1.out.bel hb)
        clear hb
        go_wp2_with fail
        refine (intsK HD.out HI.out HL20.out HT20.out).mono ?_
        rintro _ w21 ⟨rfl, hb⟩
        have HB21 := Lib.hid (HB20.out.trans (hb.mono HB20.out.size))
        have HT21 := Lib.hid (HT20.out.below hb)
        have HL21 := Lib.hid (HL20.out.bel hb)
        clear hb
        have HSS := Lib.hid (fun c fr => conv_sl2 w21 (txl l) c fr (by omega))
        have HDT : Hid (dig (nb (txl l)) = D) := by show _ = _; rw [nb_txl]; exact HD.out
        have HBT := Lib.hid (nb_bytes (txl l))
        go_wp2_with fail
        refine (sumK HDT.out HBT.out (HSS.out _ _)).mono ?_
        rintro _ w30 ⟨rfl, hb⟩
        have hb := ((Below.refl _ _).alloc (Nat.le_refl _) (.cells (bytesRow (bs (txl l)) (grownCap w21 (bs (txl l)).size 0 5)) 5 ((bytesRow (bs (txl l)) (grownCap w21 (bs (txl l)).size 0 5)).size, (bytesRow (bs (txl l)) (grownCap w21 (bs (txl l)).size 0 5)).size + 1))).drew.trans (hb.mono (by simp))
        have HB30 := Lib.hid (HB21.out.trans (hb.mono HB21.out.size))
        have HT30 := Lib.hid (HT21.out.below hb)
        have HL30 := Lib.hid (HL21.out.bel hb)
        clear hb
        clear HSS hcv
        go_wp2
        go_ret
        exact ⟨rfl, HB30.out⟩
  have hz0 : ((len : Int) == 0) = false := by rw [beq_eq_false_iff_ne]; omega
  have hz0' : decide ((len : Int) = 0) = false := decide_eq_false (by omega)
  obtain ⟨kk, hkk, hmk, hmk1, hmk2⟩ := place at' len (by omega)
  have hkl : kk < l.length := by have := HL.out; omega
  obtain ⟨c, hc'⟩ : ∃ c, c = l[kk] := ⟨_, rfl⟩
  have HC := Lib.hid hc'
  have hcb := HI.out _ (List.getElem_mem hkl)
  rw [← hc'] at hcb
  obtain ⟨d, hd⟩ : ∃ d, d = y % 10 := ⟨_, rfl⟩
  have hd10 : d < 10 := by omega
  have hyd : (y : Int).tmod 10 = (d : Int) := by rw [Int.tmod_eq_emod_of_nonneg (by omega)]; omega
  have hyd2 : (y : Int) % 10 = (d : Int) := by omega
  have hzk : ¬ (len : Int) = 0 := by omega
  clear hc' hd
  have HB0 : Hid (RowKit.Below w.heap.size w w) := Below.refl _ _
  go_enter Tryd.func5, Tryd.ntmps5
  go_wp2_with fail
  refine (head_any _ HT0.out).mono ?_
  rintro _ w1 ⟨rfl, hb⟩
  have HB1 := Lib.hid (HB0.out.trans (hb.mono HB0.out.size))
  have HT1 := Lib.hid (HT0.out.below hb)
  have HL1 := Lib.hid (HSL.out.bel hb)
  clear hb
  go_wp2_with fail
  go_loopg [8, 22] len (fun g s8 s22 wr => ∃ k : Nat, s22 = .int .i64 k ∧ k ≤ len ∧ len - k ≤ g ∧ s8 = .string (bs (txl (l.take k))) ∧ Hid (RowKit.Below w1.heap.size w1 wr))
  case atStart => exact ⟨0, rfl, by omega, by omega, rfl, Below.refl _ _⟩
  case round =>
    obtain ⟨k, rfl, hk, hkg, rfl, HB⟩ := hrel
    have h22 := HLN.out k hk
    by_cases hlt : k < len
    · have hltz : (k : Int) < (len : Int) := by omega
      have hp1 := HL1.out.ptr (by omega)
      have hkl : k < l.length := by rw [HL.out]; exact hlt
      have c1 := (HL1.out.bel HB.out).cells k hkl
      have hc := HI.out _ (List.getElem_mem hkl)
      have HTT := Lib.hid (txl_take hkl)
      generalize l[k] = c at *
      unfold i64v at c1
      have hl := Lib.itoa_length_le c hc.1 hc.2
      have KI := Lib.hid (fun w => decimal_any c w hc.1 hc.2)
      have HTX : Hid (bs (Lib.itoa c) ++ ⟨#[32]⟩ = bs (txn c)) := by
        show _ = _
        unfold txn
        rw [← bs_append]; rfl
      have HTY : Hid (bs (txl (l.take k)) ++ bs (txn c) = bs (txl (l.take (k + 1)))) := by show _ = _; rw [HTT.out, bs_append]
      have hsz : (bs (Lib.itoa c)).size ≤ 21 := by rw [bs_size]; exact hl
      have hsz2 : (bs (txn c)).size ≤ 30 := by rw [bs_size]; unfold txn; simp; omega
      have hsz3 : (bs (txl (l.take k))).size ≤ 10000 := by rw [bs_size]; omega
      have hadd : ∀ W, (Op.stringOp .add (bs (Lib.itoa c)) ⟨#[32]⟩).run Tryd.prog W = .ok (.string (bs (txn c))) W := fun W => by rw [← HTX.out]; exact run_string_add_sum W (bs (Lib.itoa c)) ⟨#[32]⟩ (by have : (⟨#[32]⟩ : ByteArray).size = 1 := rfl; omega)
      have hadd2 : ∀ W, (Op.stringOp .add (bs (txl (l.take k))) (bs (txn c))).run Tryd.prog W = .ok (.string (bs (txl (l.take (k + 1))))) W := fun W => by rw [← HTY.out]; exact run_string_add_sum W (bs (txl (l.take k))) (bs (txn c)) (by omega)
      generalize bs (Lib.itoa c) = sI at *
      generalize bs (txn c) = sT at *
      generalize hq : bs (txl (l.take k)) = sQ at *
      obtain ⟨sN, hN⟩ : ∃ s, s = bs (txl (l.take (k + 1))) := ⟨_, rfl⟩
      rw [← hN] at hadd2
      have HN := Lib.hid hN
      clear hN hq HTX HTY HTT h22 hsz hsz2 hsz3 hl hcv
      subst hp1
      go_wp2_with fail
      refine (KI.out _).mono ?_
      rintro _ w7 ⟨rfl, hb⟩
      have HB7 := Lib.hid (HB.out.trans (hb.mono HB.out.size))
      clear hb
      go_wp2
      go_roundg (len - (k + 1))
      case measure => omega
      case rel => exact ⟨k + 1, by go_num, by omega, by omega, by rw [HN.out], HB7.out⟩
    · have hltz : ¬ (k : Int) < (len : Int) := by omega
      have E : l.take k = l := List.take_of_length_le (by have := HL.out; omega)
      rw [E] at h22 ⊢
      clear E
      have hb := HB.out
      have HB20 := Lib.hid (HB1.out.trans (hb.mono HB1.out.size))
      have HT20 := Lib.hid (HT1.out.below hb)
      have HL20 := Lib.hid (HL1.out.bel hb)
      clear hb
      go_wp2_with fail
      refine (intsK HD.out HI.out HL20.out HT20.out).mono ?_
      rintro _ w21 ⟨rfl, hb⟩
      have HB21 := Lib.hid (HB20.out.trans (hb.mono HB20.out.size))
      have HT21 := Lib.hid (HT20.out.below hb)
      have HL21 := Lib.hid (HL20.out.bel hb)
      clear hb
      have HSS := Lib.hid (fun c fr => conv_sl2 w21 (txl l) c fr (by omega))
      have HDT : Hid (dig (nb (txl l)) = D) := by show _ = _; rw [nb_txl]; exact HD.out
      have HBT := Lib.hid (nb_bytes (txl l))
      go_wp2_with fail
      refine (sumK HDT.out HBT.out (HSS.out _ _)).mono ?_
      rintro _ w30 ⟨rfl, hb⟩
      have hb := ((Below.refl _ _).alloc (Nat.le_refl _) (.cells (bytesRow (bs (txl l)) (grownCap w21 (bs (txl l)).size 0 5)) 5 ((bytesRow (bs (txl l)) (grownCap w21 (bs (txl l)).size 0 5)).size, (bytesRow (bs (txl l)) (grownCap w21 (bs (txl l)).size 0 5)).size + 1))).drew.trans (hb.mono (by simp))
      have HB30 := Lib.hid (HB21.out.trans (hb.mono HB21.out.size))
      have HT30 := Lib.hid (HT21.out.below hb)
      have HL30 := Lib.hid (HL21.out.bel hb)
      clear hb
      clear HSS hcv
      have c2 := HL30.out.cells kk hkl
      rw [← HC.out] at c2
      unfold i64v at c2
      have hp1 := HL30.out.ptr (by omega)
      subst hp1
      by_cases hc0 : c < 0
      · go_wp2
        go_ret
        exact ⟨rfl, HB30.out⟩
      by_cases hc1 : 4611686018427387904 < c
      · have hc0d : decide (c < 0) = false := decide_eq_false hc0
        go_wp2
        go_ret
        exact ⟨rfl, HB30.out⟩
      obtain ⟨m, hmc⟩ : ∃ m : Nat, c = (m : Int) := ⟨c.toNat, by omega⟩
      subst hmc
      obtain ⟨e, he⟩ : ∃ e, e = m % 10 := ⟨_, rfl⟩
      have hme : (m : Int).tmod 10 = (e : Int) := by rw [Int.tmod_eq_emod_of_nonneg (by omega)]; omega
      have hme2 : (m : Int) % 10 = (e : Int) := by omega
      have hc0d : decide ((m : Int) < 0) = false := decide_eq_false hc0
      have hc1d : decide ((4611686018427387904 : Int) < (m : Int)) = false := decide_eq_false hc1
      have he10 : e < 10 := by omega
      have hem : e ≤ m := by omega
      have hm62 : m ≤ 4611686018427387904 := by omega
      have HE := Lib.hid he
      clear he
      by_cases hed : e = d
      · subst hed
        go_wp2
        go_ret
        exact ⟨rfl, HB30.out⟩
      have hedb : ((e : Int) == (d : Int)) = false := by rw [beq_eq_false_iff_ne]; omega
      obtain ⟨z1, hz1⟩ : ∃ z, z = m - e := ⟨_, rfl⟩
      obtain ⟨z, hz⟩ : ∃ z, z = z1 + d := ⟨_, rfl⟩
      have hz1i : (m : Int) - (e : Int) = (z1 : Int) := by omega
      have hzi : (z1 : Int) + (d : Int) = (z : Int) := by omega
      have hzb : z ≤ 4611686018427387914 := by omega
      have hset := txs_set hkl HC.out.symm hd10 (by rw [← HE.out]; exact hed)
      rw [show m - m % 10 + d = z by rw [hz, hz1, HE.out]] at hset
      obtain ⟨D2, hD2⟩ : ∃ D, D = dig (txs (l.set kk (z : Int))) := ⟨_, rfl⟩
      have HD2 : Hid (dig (txs (l.set kk (z : Int))) = D2) := hD2.symm
      have hne : ((D2 : Int) != (D : Int)) = true := by
        rw [← hD2, HD.out] at hset
        rw [bne_iff_ne]; omega
      have HI2 : Hid (I64s (l.set kk (z : Int))) := fun x hx => by
        rcases List.mem_or_eq_of_mem_set hx with h | rfl
        · exact HI.out x h
        · omega
      have HE9 := Lib.hid (Own.new w30 ([] : List Int) 3 i64v (by simp))
      have HLa := Lib.hid (HL30.out.alloc (.cells (([] : List Int).map i64v).toArray 3))
      clear hz hz1 hD2 hset hed
      go_wp2_with (first | (at_builtin; refine list_app_o (f := i64v) eli i64_one rfl _ _ rfl w30.heap.size (.slice (some ⟨w30.heap.size, 0, none⟩) 0 0) [] rfl HE9.out (some ⟨b, off, none⟩) b off len cap l rfl HLa.out (by simp; omega) (by simp) ?_; intro v10 W10 own10 grow10; have HB10 := Lib.hid (((Below.refl _ _).alloc (Nat.le_refl _) (.cells (([] : List Int).map i64v).toArray 3)).grown grow10 (by simp) HE9.out.block); rw [List.nil_append] at own10; obtain ⟨g, capc, hvc, hcell, hfro, hlec, hbg, hset⟩ := own10.at' (by have := HL.out; omega) hkl; rw [HL.out] at hvc hset hlec; subst hvc; rw [← HC.out] at hcell; unfold i64v at hcell; have HSET := Lib.hid (hset (z : Int)); have HBG := Lib.hid hbg; clear hset own10 grow10 hbg) | fail)
      have hb := HB10.out.setCell (p := ⟨g, kk, none⟩) HBG.out (.int .i64 (z : Int))
      have HB41 := Lib.hid (HB30.out.trans (hb.mono HB30.out.size))
      have HT41 := Lib.hid (HT30.out.below hb)
      have HL41 := Lib.hid (HL30.out.bel hb)
      clear hb
      have HQC := Lib.hid HSET.out
      go_wp2_with fail
      refine (intsK HD2.out HI2.out HQC.out HT41.out).mono ?_
      rintro _ w42 ⟨rfl, hb⟩
      have HB42 := Lib.hid (HB41.out.trans (hb.mono HB41.out.size))
      have HT42 := Lib.hid (HT41.out.below hb)
      have HL42 := Lib.hid (HL41.out.bel hb)
      have HC42 := Lib.hid (HQC.out.bel hb)
      clear hb
      go_wp2_with fail
      refine (intsK HD.out HI.out HL42.out HT42.out).mono ?_
      rintro _ w43 ⟨rfl, hb⟩
      have HB43 := Lib.hid (HB42.out.trans (hb.mono HB42.out.size))
      have HT43 := Lib.hid (HT42.out.below hb)
      have HL43 := Lib.hid (HL42.out.bel hb)
      clear hb
      go_wp2
      go_ret
      exact ⟨rfl, HB43.out⟩
end Go.Proofs.YtlbaggljmbkfdaaDoor
