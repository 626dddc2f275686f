/-
  The reference's digest of numbers.
-/
import Derived.Test.YtidhhndclkilnaaDoorDInts
namespace Go.Proofs.YtidhhndclkilnaaDoor
open Go.RowKit Dg

set_option maxRecDepth 100000 in
set_option maxHeartbeats 2000000 in
theorem rints_any (l : List Int) (p : Option Addr) (b off cap len : Nat) (w : World) (hS : SlF i64v w p b off len l) (hI : I64s l) (hn : len ≤ 1000) :
    Calls Tryd.prog 51 #[.slice p len cap] w fun e w' => e = .returned (.int .u64 (dig (txs l) : Nat)) ∧ RowKit.Below w.heap.size w w' := by
  have HS := Lib.hid hS
  have HI := Lib.hid hI
  have hm := hS.max
  have HL := Lib.hid hS.ln
  have HLN : Hid (∀ k, k ≤ len → (txs (l.take k)).length ≤ 22 * k) := fun k hk => by
    have h : ∀ a : List Int, I64s a → (txs a).length ≤ 22 * a.length := fun a => by
      induction a with
      | nil => intro _; exact Nat.le_refl _
      | cons x a ih =>
        intro h
        have := ih (fun y hy => h y (by simp [hy]))
        have h2 := h x (by simp)
        have h3 := Lib.itoa_length_le x h2.1 h2.2
        rw [txs, List.length_append, nb_len, List.length_cons]
        unfold txn
        rw [List.length_append, List.length_singleton]
        omega
    have := h (l.take k) (fun x hx => hI x (List.mem_of_mem_take hx))
    rw [List.length_take] at this
    have h4 : min k l.length ≤ k := Nat.min_le_left _ _
    omega
  clear hS hI
  go_enter Tryd.func51, Tryd.ntmps51
  go_wp2_with fail
  go_loopg [3, 4] len (fun g s3 s4 wr => ∃ k : Nat, s4 = .int .i64 k ∧ k ≤ len ∧ len - k ≤ g ∧ Hid (Own 5 u8v wr w.heap.size s3 (txs (l.take k))) ∧ Hid (RowKit.Below w.heap.size w wr))
  case atStart => exact ⟨0, rfl, by omega, by omega, Own.empty, Below.refl _ _⟩
  case round =>
    obtain ⟨k, rfl, hk, hkg, HO, HB⟩ := hrel
    by_cases hlt : k < len
    · have hltz : (k : Int) < (len : Int) := by omega
      have hp1 := HS.out.ptr (by omega)
      have hkl : k < l.length := by rw [HL.out]; exact hlt
      have c1 := (HS.out.bel HB.out).cells k hkl
      have hc := HI.out _ (List.getElem_mem hkl)
      have HT := Lib.hid (txs_take hkl)
      have h22 := HLN.out k hk
      generalize l[k] = c at *
      unfold i64v at c1
      have hl := Lib.itoa_length_le c hc.1 hc.2
      have KI := Lib.hid (fun w => decimal_any c w hc.1 hc.2)
      have HTX : Hid (nb (Lib.itoa c) ++ [32] = nb (txn c)) := by show _ = _; unfold txn; rw [nb_app]; rfl
      have hnl : (nb (Lib.itoa c)).length ≤ 21 := by rw [nb_len]; exact hl
      generalize Lib.itoa c = sI at *
      generalize hQ : txs (l.take k) = Q at *
      clear hQ
      subst hp1
      go_wp2_with fail
      refine (KI.out _).mono ?_
      rintro _ w1 ⟨rfl, hb1⟩
      have HB1 := Lib.hid (HB.out.trans (hb1.mono HB.out.size))
      have HO1 := Lib.hid (HO.out.below hb1)
      clear hb1
      have HLQ : Hid ((Q ++ nb sI).length + 1 ≤ 1000000) := by show _ ≤ _; rw [List.length_append]; omega
      have HNW : Hid (∀ W5 : World, ∀ (j : Nat) (h : j < [32].length), (W5.alloc (.cells #[.int .u8 32] 5)).cell? ((⟨W5.heap.size, 0, none⟩ : Addr).add j) = some (u8v [32][j])) := fun W5 => news1 (f := u8v) W5 32 _
      go_wp2_with (first | (at_builtin; refine list_app_str rfl _ _ rfl w.heap.size u3 Q rfl HO1.out sI rfl (by omega) HB1.out.size ?_; intro v5 W5 own5 grow5; have HB5 := Lib.hid (HB1.out.grown grow5 HB1.out.size HO1.out.block); have HO5 := Lib.hid own5; clear own5 grow5) | (at_builtin; refine list_app (f := u8v) el8 u8_one rfl _ _ rfl w.heap.size v5 (Q ++ nb sI) rfl (HO5.out.alloc _) ⟨W5.heap.size, 0, none⟩ 1 1 [32] rfl rfl (HNW.out W5) HLQ.out (by have := HB5.out.size; rw [World.size_alloc]; omega) ?_; intro v6 W6 own6 grow6 _) | fail)
      have HB6 := Lib.hid ((HB5.out.alloc HB5.out.size (.cells #[.int .u8 32] 5)).grown grow6 (by have := HB5.out.size; rw [World.size_alloc]; omega) HO5.out.block)
      rw [List.append_assoc, HTX.out, ← HT.out] at own6
      have HO6 := Lib.hid own6
      clear own6 grow6
      go_wp2
      go_roundg (len - (k + 1))
      case measure => omega
      case rel => exact ⟨k + 1, by go_num, by omega, by omega, HO6.out, HB6.out⟩
    · have hltz : ¬ (k : Int) < (len : Int) := by omega
      have E : l.take k = l := List.take_of_length_le (by have := HL.out; omega)
      have h := HO.out
      have h22 := HLN.out k hk
      rw [E] at h h22
      have HBY := Lib.hid (txs_bytes l)
      have KS := Lib.hid (fun w p b off cap len hS hB => rsum_any (txs l) p b off cap len w hS hB)
      obtain ⟨q5, b5, cap5, rfl, hs5, hc5⟩ := h.reads (by omega)
      have HS5 := Lib.hid hs5
      clear E h hs5 h22 HO
      obtain ⟨L, hL⟩ : ∃ L, L = txs l := ⟨_, rfl⟩
      rw [← hL] at HBY KS HS5 ⊢
      have HLX := Lib.hid hL
      clear hL
      go_wp2_with fail
      refine (KS.out wr q5 b5 0 cap5 L.length HS5.out HBY.out).mono ?_
      rintro _ w8 ⟨rfl, rfl⟩
      go_wp2
      go_ret
      exact ⟨ret_u64 (by rw [HLX.out]), HB.out⟩
end Go.Proofs.YtidhhndclkilnaaDoor
