/-
  The digest of numbers: contracts of Itoa, Ints.
-/
import Derived.Test.YtidhhndclkilnaaDoorDOwn
import Derived.Test.YtidhhndclkilnaaDoorDShelf
import Derived.Lib.ItoaLen
import Derived.Lib.AppendIntMem
import Derived.Lib.SmallJoins
import Derived.Laws.IdiomStrings
import Derived.Laws.BytesString
namespace Go.Proofs.YtidhhndclkilnaaDoor
open Go.RowKit Dg

theorem gTab : Tryd.prog.globalNamed "internal/strconv.uint64pow10" = some 0 := by kernel_rfl
/-- The library's table reads as it was laid. -/
def Tab (w : World) : Prop := Lib.TabIs Tryd.prog w "internal/strconv.uint64pow10" .u64 Lib.pow10Tab
theorem tab_lt {w : World} (h : Tab w) : 0 < w.heap.size := by
  have e := Lib.TabIs.cell h gTab 0 (by decide)
  exact World.block_lt_of_cell? _ _ e
theorem Tab.below {w w1 : World} (h : Tab w) (hb : Below w.heap.size w w1) : Tab w1 := var?_below hb gTab (tab_lt h) h

theorem bs_size (l : List UInt8) : (bs l).size = l.length := by simp [bs, ByteArray.size]
theorem bs_append (l k : List UInt8) : bs l ++ bs k = bs (l ++ k) := by
  apply ByteArray.ext
  simp [bs]
theorem nb_len (l : List UInt8) : (nb l).length = l.length := by unfold nb; simp
theorem nb_bytes (l : List UInt8) : Bytes (nb l) := fun c hc => by
  obtain ⟨x, _, rfl⟩ := List.mem_map.1 hc
  exact x.toNat_lt
theorem nb_app (l k : List UInt8) : nb (l ++ k) = nb l ++ nb k := by unfold nb; simp
theorem itoa_any (n : Int) (w : World) (hE : Tab w) (h0 : -9223372036854775808 ≤ n) (h1 : n ≤ 9223372036854775807) :
    Calls Tryd.prog 59 #[.int .i64 n] w fun e w' => e = .returned (.string (bs (Lib.itoa n))) ∧ Below w.heap.size w w' := by
  refine (Tryd.strconv_Itoa n h0 h1 w hE).mono ?_
  rintro e w' ⟨rfl, k, os, rfl⟩
  exact ⟨rfl, Lib.below_grow _ _ (Nat.le_refl _) _ _⟩
/-- The text of a number, and a blank. -/
def txn (n : Int) : List UInt8 := Lib.itoa n ++ [32]
/-- The bytes of the text of numbers. -/
def txs : List Int → List Nat
  | [] => []
  | n :: l => nb (txn n) ++ txs l
theorem txs_bytes : ∀ l, Bytes (txs l)
  | [] => fun c h => by cases h
  | n :: l => fun c h => by
    rw [txs] at h
    rcases List.mem_append.1 h with h | h
    · exact nb_bytes _ c h
    · exact txs_bytes l c h
theorem txs_app : ∀ l k, txs (l ++ k) = txs l ++ txs k
  | [], _ => rfl
  | n :: l, k => by rw [List.cons_append, txs, txs, txs_app, List.append_assoc]
theorem txs_take {l : List Int} {k : Nat} (hk : k < l.length) : txs (l.take (k + 1)) = txs (l.take k) ++ nb (txn l[k]) := by
  rw [List.take_succ_eq_append_getElem hk, txs_app, txs, txs, List.append_nil]
/-- Numbers of 64 bits. -/
def I64s (l : List Int) : Prop := ∀ x ∈ l, -9223372036854775808 ≤ x ∧ x ≤ 9223372036854775807

theorem conv_sl (w : World) (l : List UInt8) (c : Nat) (fr : Nat × Nat) (h : (bs l).size ≤ 1000) : SlF u8v (w.alloc (.cells (bytesRow (bs l) c) 5 fr)).drew (some ⟨w.heap.size, 0, none⟩) w.heap.size 0 (bs l).size (nb l) := by
  refine ⟨by rw [nb_len, bs_size], fun _ => rfl, fun k hk => ?_, fun _ => by simp, by omega⟩
  have hk2 : k < (bs l).data.size := by rw [nb_len] at hk; simpa [bs] using hk
  have h1 := bytesRow_at (bs l) c k hk2
  have h2 : (w.alloc (.cells (bytesRow (bs l) c) 5 fr)).drew.heap[w.heap.size]? = some (.cells (bytesRow (bs l) c) 5 fr) := by
    show (w.heap.push _)[w.heap.size]? = _
    simp
  unfold World.cell?
  simp only [Nat.zero_add, h2]
  simpa [u8v, nb, bs] using h1

set_option maxRecDepth 100000 in
set_option maxHeartbeats 1000000 in
theorem ints_any (l : List Int) (p : Option Addr) (b off cap len : Nat) (w : World) (hS : SlF i64v w p b off len l) (hI : I64s l) (hT : Tab w) :
    Calls Tryd.prog 54 #[.slice p len cap] w fun e w' => e = .returned (.int .u64 (dig (txs l) : Nat)) ∧ RowKit.Below w.heap.size w w' := by
  have HS := Lib.hid hS
  have HT := Lib.hid hT
  have HI := Lib.hid hI
  have hm := hS.max
  have HL := Lib.hid hS.ln
  have HD := Lib.hid (dig_def (txs l))
  obtain ⟨h, hh0⟩ : ∃ h, h = 14695981039346656037 := ⟨_, rfl⟩
  rw [← hh0] at HD
  have hh : h < 18446744073709551616 := by rw [hh0]; decide
  have HH := Lib.hid hh0
  clear hS hI hT hh0
  go_enter Tryd.func54, Tryd.ntmps54
  go_wp2_with fail
  go_loopg [3, 8] len (fun g s0 s9 wr => ∃ k : Nat, s9 = .int .i64 k ∧ k ≤ len ∧ len - k ≤ g ∧ s0 = .int .u64 (dgF h (txs (l.take k)) : Nat) ∧ Hid (RowKit.Below w.heap.size w wr))
  case atStart => exact ⟨0, rfl, by omega, by omega, by rw [HH.out]; rfl, Below.refl _ _⟩
  case round =>
    obtain ⟨k, rfl, hk, hkg, rfl, HB⟩ := hrel
    by_cases hlt : k < len
    · have hltz : (k : Int) < (len : Int) := by omega
      have hp1 := HS.out.ptr (by omega)
      have hkl : k < l.length := by rw [HL.out]; exact hlt
      have c1 := (HS.out.bel HB.out).cells k hkl
      have hc := HI.out _ (List.getElem_mem hkl)
      have hx := dgF_lt (txs (l.take k)) hh
      obtain ⟨y, hy⟩ : ∃ y, y = dgF h (txs (l.take (k + 1))) := ⟨_, rfl⟩
      have E : y = dgF (dgF h (txs (l.take k))) (nb (txn l[k])) := by rw [hy, txs_take hkl, dgF_app]
      have HY := Lib.hid hy
      have HTW := Lib.hid (HT.out.below HB.out)
      clear hy
      generalize l[k] = c at *
      generalize dgF h (txs (l.take k)) = x at *
      unfold i64v at c1
      have hl := Lib.itoa_length_le c hc.1 hc.2
      have KI := Lib.hid (fun w h => itoa_any c w h hc.1 hc.2)
      have HTX : Hid (bs (Lib.itoa c) ++ ⟨#[32]⟩ = bs (txn c)) := by
        show _ = _
        unfold txn
        rw [← bs_append]; rfl
      have hsz : (bs (Lib.itoa c)).size ≤ 21 := by rw [bs_size]; exact hl
      have hsz2 : (bs (txn c)).size ≤ 30 := by rw [bs_size]; unfold txn; simp; omega
      have KE := Lib.hid (fun w p b off cap len hS => extend_any (nb (txn c)) x p b off cap len w hS (nb_bytes _) hx)
      rw [← E] at KE
      have hcv := fun w s => run_bytes_of_string (P := Tryd.prog) w 9 61 5 s Tryd.underlying9 Tryd.underlying61 Tryd.underlying5
      subst hp1
      clear E hl
      go_wp2_with fail
      refine (KI.out _ HTW.out).mono ?_
      rintro _ w1 ⟨rfl, hb1⟩
      have HB1 := Lib.hid (HB.out.trans (hb1.mono HB.out.size))
      clear hb1
      have hadd := run_string_add_sum (P := Tryd.prog) w1 (bs (Lib.itoa c)) ⟨#[32]⟩ (by have : (⟨#[32]⟩ : ByteArray).size = 1 := rfl; omega)
      rw [HTX.out] at hadd
      generalize bs (Lib.itoa c) = sI at *
      have HSL := Lib.hid (fun c' fr => conv_sl w1 (txn c) c' fr (by omega))
      go_wp2_with fail
      refine (KE.out _ _ _ _ _ _ (HSL.out _ _)).mono ?_
      rintro _ w2 ⟨rfl, rfl⟩
      have HB2 : Hid (RowKit.Below w.heap.size w (w1.alloc (.cells (bytesRow (bs (txn c)) (grownCap w1 (bs (txn c)).size 0 5)) 5 ((bytesRow (bs (txn c)) (grownCap w1 (bs (txn c)).size 0 5)).size, (bytesRow (bs (txn c)) (grownCap w1 (bs (txn c)).size 0 5)).size + 1))).drew) := (HB1.out.alloc HB1.out.size _).drew
      generalize (w1.alloc (.cells (bytesRow (bs (txn c)) (grownCap w1 (bs (txn c)).size 0 5)) 5 ((bytesRow (bs (txn c)) (grownCap w1 (bs (txn c)).size 0 5)).size, (bytesRow (bs (txn c)) (grownCap w1 (bs (txn c)).size 0 5)).size + 1))).drew = W2 at *
      clear HSL hcv hadd KE
      go_wp2
      go_roundg (len - (k + 1))
      case measure => omega
      case rel => exact ⟨k + 1, by go_num, by omega, by omega, by rw [HY.out], HB2.out⟩
    · have hltz : ¬ (k : Int) < (len : Int) := by omega
      have E : Hid (l.take k = l) := List.take_of_length_le (by have := HL.out; omega)
      go_wp2
      go_ret
      exact ⟨ret_u64 (by rw [HD.out, E.out]), HB.out⟩

/-! ### The reference's text of a number -/
theorem dec_small {n : Nat} (h : n < 10) : Lib.decDigits n = [UInt8.ofNat (48 + n)] := by
  rw [Lib.decDigits]; simp [h]
theorem dec_big {n : Nat} (h : 10 ≤ n) : Lib.decDigits n = Lib.decDigits (n / 10) ++ [UInt8.ofNat (48 + n % 10)] := by
  rw [Lib.decDigits]; simp [show ¬ n < 10 by omega]
theorem itoa_nat (n : Nat) : Lib.itoa n = Lib.decDigits n := by unfold Lib.itoa; rw [if_neg (by omega), Int.toNat_natCast]
theorem itoa_neg {n : Nat} (h : 0 < n) : Lib.itoa (-(n : Int)) = 45 :: Lib.decDigits n := by unfold Lib.itoa; rw [if_pos (by omega), Int.natAbs_neg, Int.natAbs_natCast]
theorem bstep {w W v : World} (h : RowKit.Below w.heap.size w W) (hb : RowKit.Below W.heap.size W v) : RowKit.Below w.heap.size w v := h.trans (hb.mono h.size)
theorem balloc {w W : World} {o : Obj} (h : RowKit.Below w.heap.size w W) : RowKit.Below w.heap.size w (W.alloc o) := h.alloc h.size o
/-- One byte as a string. -/
theorem conv_one (W : World) (g : Nat) (x : Int) (h : W.cell? ⟨g, 0, none⟩ = some (.int .u8 x)) : (convert 61 9 (.slice (some ⟨g, 0, none⟩) 1 1)).run Tryd.prog W = .ok (.string ⟨#[UInt8.ofNat x.toNat]⟩) W := by
  rw [run_convert_bytes_string _ _ _ _ _ _ _ Tryd.underlying61 Tryd.underlying5 Tryd.underlying9]
  rw [run_bytesToString _ _ 1 1 [x] (by simp [go_sem, loadCells, h])]
  rfl
set_option maxRecDepth 100000 in
set_option maxHeartbeats 1000000 in
theorem decimal_nat (n : Nat) (w : World) (hn : n ≤ 9223372036854775807) :
    Calls Tryd.prog 55 #[.int .i64 n] w fun e w' => e = .returned (.string (bs (Lib.decDigits n))) ∧ RowKit.Below w.heap.size w w' := by
  induction n using Nat.strongRecOn generalizing w with
  | _ n ih =>
    have hcv := conv_one
    by_cases h : n < 10
    · rw [dec_small h]
      have hz : (n : Int) < 10 := by omega
      have E : Hid (∀ d : Nat, d = 48 + n → (⟨#[UInt8.ofNat d]⟩ : ByteArray) = bs [UInt8.ofNat (48 + n)]) := fun d hd => by rw [hd]; rfl
      go_enter Tryd.func55, Tryd.ntmps55
      go_wp2
      go_ret
      exact ⟨rfl, (by repeat' (first | (with_reducible refine Below.setCell ?_ ?_ _) | (with_reducible refine Below.alloc ?_ ?_ _) | (with_reducible refine Below.drew ?_) | (with_reducible refine below_drewN ?_ _) | (with_reducible exact Below.refl _ _) | omega | (simp; done) | (simp; omega)))⟩
    · obtain ⟨q, hq⟩ : ∃ q, q = n / 10 := ⟨_, rfl⟩
      obtain ⟨d, hd⟩ : ∃ d, d = n % 10 := ⟨_, rfl⟩
      have IH := Lib.hid (fun w => ih q (by omega) w (by omega))
      rw [dec_big (by omega), ← hq, ← hd]
      have hd10 : d < 10 := by omega
      have h1 : (n : Int).tdiv 10 = (q : Int) := by rw [Int.tdiv_eq_ediv_of_nonneg (by omega)]; omega
      have h2 : (n : Int).tmod 10 = (d : Int) := by rw [Int.tmod_eq_emod_of_nonneg (by omega)]; omega
      have h3 : IntKind.i64.wrap (q : Int) = (q : Int) := by rw [IntKind.wrap_i64]; omega
      have h4 : IntKind.i64.wrap (d : Int) = (d : Int) := by rw [IntKind.wrap_i64]; omega
      obtain ⟨z, hz⟩ : ∃ z, z = 48 + d := ⟨_, rfl⟩
      have h5 : IntKind.i64.wrap (48 + (d : Int)) = (z : Int) := by rw [IntKind.wrap_i64]; omega
      have h6 : IntKind.u8.wrap (z : Int) = (z : Int) := by rw [IntKind.wrap_u8]; omega
      have h7 : ¬ (n : Int) < 10 := by omega
      have E : Hid (bs (Lib.decDigits q) ++ ⟨#[UInt8.ofNat z]⟩ = bs (Lib.decDigits q ++ [UInt8.ofNat (48 + d)])) := by show _ = _; rw [← bs_append, hz]; rfl
      have l1 : (bs (Lib.decDigits q)).size ≤ 20 := by rw [bs_size, Lib.decDigits_length]; exact Lib.nDigits_le20 q (by omega)
      have hadd : ∀ W, (Op.stringOp .add (bs (Lib.decDigits q)) ⟨#[UInt8.ofNat z]⟩).run Tryd.prog W = .ok (.string (bs (Lib.decDigits q ++ [UInt8.ofNat (48 + d)]))) W := fun W => by
        rw [← E.out]
        exact run_string_add_sum W (bs (Lib.decDigits q)) ⟨#[UInt8.ofNat z]⟩ (by have : (⟨#[UInt8.ofNat z]⟩ : ByteArray).size = 1 := rfl; omega)
      generalize bs (Lib.decDigits q) = sq at *
      generalize bs (Lib.decDigits q ++ [UInt8.ofNat (48 + d)]) = sr at *
      have B0 := (Below.refl w.heap.size w).drew
      have B1 := ((Below.refl w.heap.size w).alloc (Nat.le_refl _) (.cells #[.int .u8 (z : Int)] 5)).drew
      have C1 : (w.alloc (.cells #[.int .u8 (z : Int)] 5)).drew.cell? ⟨w.heap.size, 0, none⟩ = some (.int .u8 (z : Int)) := by simp
      clear ih hq hd hz E h l1
      go_enter Tryd.func55, Tryd.ntmps55
      go_wp2_with fail
      go_region_with (first | (go_at_call 55; refine (IH.out _).mono ?_; rintro _ v1 ⟨rfl, hb⟩; have hq := (hb.cell (p := ⟨w.heap.size, 0, none⟩) (by simp)).trans C1) | (go_at_call 55; refine (IH.out _).mono ?_; rintro _ v1 ⟨rfl, hb⟩))
      all_goals
        go_wp2
        go_ret
        exact ⟨rfl, by first | exact bstep B0 hb | exact bstep B1 hb | exact balloc (bstep B0 hb)⟩
set_option maxRecDepth 100000 in
set_option maxHeartbeats 1000000 in
theorem decimal_neg (n : Nat) (w : World) (hn0 : 1 ≤ n) (hn : n ≤ 9223372036854775808) :
    Calls Tryd.prog 55 #[.int .i64 (-(n : Int))] w fun e w' => e = .returned (.string (bs (45 :: Lib.decDigits n))) ∧ RowKit.Below w.heap.size w w' := by
  induction n using Nat.strongRecOn generalizing w with
  | _ n ih =>
    have hcv := conv_one
    by_cases h : n < 10
    · rw [dec_small h]
      have hz : -(n : Int) < 0 := by omega
      have h1 : (-(n : Int)).tdiv 10 = 0 := by rw [Int.neg_tdiv, Int.tdiv_eq_ediv_of_nonneg (by omega)]; omega
      obtain ⟨z, hz2⟩ : ∃ z, z = 48 + n := ⟨_, rfl⟩
      have h5 : (48 : Int) - -(n : Int) = (z : Int) := by omega
      have h6 : IntKind.u8.wrap (z : Int) = (z : Int) := by rw [IntKind.wrap_u8]; omega
      have hzb : z < 256 := by omega
      have E : Hid ((⟨#[45]⟩ : ByteArray) ++ ⟨#[UInt8.ofNat z]⟩ = bs (45 :: [UInt8.ofNat (48 + n)])) := by show _ = _; rw [hz2]; apply ByteArray.ext; simp [bs]
      have hadd : ∀ W, (Op.stringOp .add ⟨#[45]⟩ ⟨#[UInt8.ofNat z]⟩).run Tryd.prog W = .ok (.string (bs (45 :: [UInt8.ofNat (48 + n)]))) W := fun W => by
        rw [← E.out]
        exact run_string_add_sum W ⟨#[45]⟩ ⟨#[UInt8.ofNat z]⟩ (by have e1 : (⟨#[45]⟩ : ByteArray).size = 1 := rfl; have e2 : (⟨#[UInt8.ofNat z]⟩ : ByteArray).size = 1 := rfl; omega)
      generalize bs (45 :: [UInt8.ofNat (48 + n)]) = sr at *
      clear E hz2
      go_enter Tryd.func55, Tryd.ntmps55
      go_wp2
      go_ret
      exact ⟨rfl, (by repeat' (first | (with_reducible refine Below.setCell ?_ ?_ _) | (with_reducible refine Below.alloc ?_ ?_ _) | (with_reducible refine Below.drew ?_) | (with_reducible refine below_drewN ?_ _) | (with_reducible exact Below.refl _ _) | omega | (simp; done) | (simp; omega)))⟩
    · obtain ⟨q, hq⟩ : ∃ q, q = n / 10 := ⟨_, rfl⟩
      obtain ⟨d, hd⟩ : ∃ d, d = n % 10 := ⟨_, rfl⟩
      have IH := Lib.hid (fun w => ih q (by omega) w (by omega) (by omega))
      rw [dec_big (by omega), ← hq, ← hd]
      have hd10 : d < 10 := by omega
      have h1 : (-(n : Int)).tdiv 10 = -(q : Int) := by rw [Int.neg_tdiv, Int.tdiv_eq_ediv_of_nonneg (by omega)]; omega
      have h2 : (-(n : Int)).tmod 10 = -(d : Int) := by rw [Int.neg_tmod, Int.tmod_eq_emod_of_nonneg (by omega)]; omega
      have h3 : IntKind.i64.wrap (-(q : Int)) = -(q : Int) := by rw [IntKind.wrap_i64]; omega
      have h4 : IntKind.i64.wrap (-(d : Int)) = -(d : Int) := by rw [IntKind.wrap_i64]; omega
      obtain ⟨z, hz⟩ : ∃ z, z = 48 + d := ⟨_, rfl⟩
      have h5 : IntKind.i64.wrap (48 - -(d : Int)) = (z : Int) := by rw [IntKind.wrap_i64]; omega
      have h5b : IntKind.i64.wrap (48 + (d : Int)) = (z : Int) := by rw [IntKind.wrap_i64]; omega
      have h6 : IntKind.u8.wrap (z : Int) = (z : Int) := by rw [IntKind.wrap_u8]; omega
      have h7 : -(n : Int) < 0 := by omega
      have h8 : ¬ -(q : Int) = 0 := by omega
      have E : Hid (bs (45 :: Lib.decDigits q) ++ ⟨#[UInt8.ofNat z]⟩ = bs (45 :: (Lib.decDigits q ++ [UInt8.ofNat (48 + d)]))) := by show _ = _; rw [hz]; apply ByteArray.ext; simp [bs]
      have l1 : (bs (45 :: Lib.decDigits q)).size ≤ 21 := by rw [bs_size, List.length_cons, Lib.decDigits_length]; have := Lib.nDigits_le20 q (by omega); omega
      have hadd : ∀ W, (Op.stringOp .add (bs (45 :: Lib.decDigits q)) ⟨#[UInt8.ofNat z]⟩).run Tryd.prog W = .ok (.string (bs (45 :: (Lib.decDigits q ++ [UInt8.ofNat (48 + d)])))) W := fun W => by
        rw [← E.out]
        exact run_string_add_sum W (bs (45 :: Lib.decDigits q)) ⟨#[UInt8.ofNat z]⟩ (by have : (⟨#[UInt8.ofNat z]⟩ : ByteArray).size = 1 := rfl; omega)
      generalize bs (45 :: Lib.decDigits q) = sq at *
      generalize bs (45 :: (Lib.decDigits q ++ [UInt8.ofNat (48 + d)])) = sr at *
      have B0 := (Below.refl w.heap.size w).drew
      have B1 := ((Below.refl w.heap.size w).alloc (Nat.le_refl _) (.cells #[.int .u8 (z : Int)] 5)).drew
      have C1 : (w.alloc (.cells #[.int .u8 (z : Int)] 5)).drew.cell? ⟨w.heap.size, 0, none⟩ = some (.int .u8 (z : Int)) := by simp
      clear ih hq hd hz E h l1
      go_enter Tryd.func55, Tryd.ntmps55
      go_wp2_with fail
      go_region_with (first | (go_at_call 55; refine (IH.out _).mono ?_; rintro _ v1 ⟨rfl, hb⟩; have hq := (hb.cell (p := ⟨w.heap.size, 0, none⟩) (by simp)).trans C1) | (go_at_call 55; refine (IH.out _).mono ?_; rintro _ v1 ⟨rfl, hb⟩))
      all_goals
        go_wp2
        go_ret
        exact ⟨rfl, by first | exact bstep B0 hb | exact bstep B1 hb | exact balloc (bstep B0 hb)⟩
theorem decimal_any (n : Int) (w : World) (h0 : -9223372036854775808 ≤ n) (h1 : n ≤ 9223372036854775807) :
    Calls Tryd.prog 55 #[.int .i64 n] w fun e w' => e = .returned (.string (bs (Lib.itoa n))) ∧ RowKit.Below w.heap.size w w' := by
  by_cases h : n < 0
  · obtain ⟨a, rfl⟩ : ∃ a : Nat, n = -(a : Int) := ⟨n.natAbs, by omega⟩
    rw [itoa_neg (by omega)]
    exact decimal_neg a w (by omega) (by omega)
  · obtain ⟨a, rfl⟩ : ∃ a : Nat, n = (a : Int) := ⟨n.toNat, by omega⟩
    rw [itoa_nat]
    exact decimal_nat a w (by omega)
end Go.Proofs.YtidhhndclkilnaaDoor
