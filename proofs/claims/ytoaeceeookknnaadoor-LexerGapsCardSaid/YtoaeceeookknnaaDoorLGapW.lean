/-
  The contract of gap.
-/
import Derived.Test.YtoaeceeookknnaaDoorLGapM
import Derived.Test.YtoaeceeookknnaaDoorLDig
namespace Go.Proofs.YtoaeceeookknnaaDoor
open Go.RowKit Lx

/-- A slice reads as a list of bytes. -/
structure SlB (w : World) (p : Option Addr) (b off len : Nat) (l : List UInt8) : Prop where
  ln : l.length = len
  ptr : 0 < len → p = some ⟨b, off, none⟩
  cells : ∀ (k : Nat) (h : k < l.length), w.cell? ⟨b, off + k, none⟩ = some (.int .u8 l[k].toNat)
  lt : 0 < len → b < w.heap.size
  max : len ≤ 9223372036854775807
theorem SlB.below {w w1 : World} {p : Option Addr} {b off len : Nat} {l : List UInt8} (h : SlB w p b off len l) {B : Nat} (hB : RowKit.Below B w w1) (hb : 0 < len → b < B) : SlB w1 p b off len l :=
  ⟨h.ln, h.ptr, fun k hk => (hB.cell (p := ⟨b, off + k, none⟩) (hb (by have := h.ln; omega))).trans (h.cells k hk), fun x => Nat.lt_of_lt_of_le (h.lt x) hB.size, h.max⟩
theorem SlB.bel {w w1 : World} {p : Option Addr} {b off len : Nat} {l : List UInt8} (h : SlB w p b off len l) (hB : RowKit.Below w.heap.size w w1) : SlB w1 p b off len l := h.below hB h.lt
theorem map_take {l : List UInt8} {k : Nat} (h : k < l.length) {c : UInt8} (hc : l[k] = c) : (l.take (k + 1)).map gb = (l.take k).map gb ++ [gb c] := by
  rw [List.take_succ_eq_append_getElem h, List.map_append, hc]; rfl
theorem gc_take {l : List UInt8} {k : Nat} (h : k < l.length) {c : UInt8} (hc : l[k] = c) : gc (l.take (k + 1)) = gc (l.take k) ++ (if c.toNat = 10 then [] else [c]) := by
  unfold gc
  rw [List.take_succ_eq_append_getElem h, List.filter_append, hc]
  by_cases h : c.toNat = 10
  · simp [h]
  · simp [h]
set_option maxRecDepth 100000 in
set_option maxHeartbeats 3000000 in
theorem gap_any (p : Option Addr) (b off len cap : Nat) (l : List UInt8) (w : World) (h : SlB w p b off len l) (hcap : len ≤ cap) :
    Calls Tryd.prog 16 #[.slice p len cap] w fun e w' => e = .returned (.string (bs (gapL l))) ∧ RowKit.Below w.heap.size w w' := by
  have hcv := conv1
  have H := Lib.hid h
  have hln := h.ln
  have HL := Lib.hid hln
  have hmx := h.max
  obtain ⟨N, hN⟩ : ∃ N, N = min len 20 := ⟨_, rfl⟩
  have hN1 : N ≤ len ∧ N ≤ 20 ∧ (N = len ∨ N = 20) := by omega
  obtain ⟨R, hR⟩ : ∃ R, R = gapL l := ⟨_, rfl⟩
  rw [← hR]
  have HR := Lib.hid hR
  clear h hln hR hN
  go_enter Tryd.func16, Tryd.ntmps16
  go_wp2_with fail
  go_loopg [3, 4] N (fun g s3 s4 wr => ∃ k : Nat, s4 = .int .i64 k ∧ s3 = .string (bs ((l.take k).map gb)) ∧ k ≤ N ∧ N - k ≤ g ∧ Hid (RowKit.Below w.heap.size w wr))
  case atStart => exact ⟨0, rfl, by rfl, by omega, by omega, Below.refl _ _⟩
  case round =>
    obtain ⟨k, rfl, rfl, hk, hkg, HB⟩ := hrel
    have hz : (bs ((l.take k).map gb)).size ≤ 20 := by rw [bs_size, List.length_map, List.length_take]; omega
    have hsz := HB.out.size
    by_cases hlt : k < N
    · have h1 : (k : Int) < (len : Int) := by omega
      have h2 : (k : Int) < 20 := by omega
      have hkl : k < l.length := by rw [HL.out]; omega
      have hc := (H.out.below HB.out H.out.lt).cells k hkl
      have hbs := hb_k (H.out.lt (by omega)) HB.out.size
      replace hc := (((Below.refl wr.heap.size wr).alloc (Nat.le_refl _) (.cells #[.string ⟨#[32]⟩, .string ⟨#[9]⟩, .string ⟨#[10]⟩, .string ⟨#[13]⟩] 9)).cell (p := ⟨b, off + k, none⟩) hbs).trans hc
      have hp := H.out.ptr (by omega)
      subst hp
      obtain ⟨c, hX⟩ : ∃ c, l[k] = c := ⟨_, rfl⟩
      have HT := Lib.hid (map_take hkl hX)
      have HG : Hid (gb c = if c.toNat % 4 = 0 then 32 else if c.toNat % 4 = 1 then 9 else if c.toNat % 4 = 2 then 10 else 13) := rfl
      rw [hX] at hc
      generalize (l.take k).map gb = pre at *
      generalize gb c = gcc at *
      clear hX hkl
      have hc256 : c.toNat < 256 := c.toNat_lt
      generalize c.toNat = n at *
      have h4 : n % 4 = 0 ∨ n % 4 = 1 ∨ n % 4 = 2 ∨ n % 4 = 3 := by omega
      rcases h4 with h4 | h4 | h4 | h4
      · have e4 : (n : Int) % 4 = 0 := by omega
        have ES : Hid (bs pre ++ ⟨#[32]⟩ = bs ((l.take (k + 1)).map gb)) := by
          show _ = _
          rw [HT.out, HG.out, h4, show (⟨#[32]⟩ : ByteArray) = bs [32] from rfl, bs_app]; rfl
        clear h4
        go_wp2_with fail
        go_roundg (N - (k + 1))
        case measure => omega
        case rel => exact ⟨k + 1, by go_num, by rw [ES.out], by omega, by omega, HB.out.alloc hsz _⟩
      · have e4 : (n : Int) % 4 = 1 := by omega
        have ES : Hid (bs pre ++ ⟨#[9]⟩ = bs ((l.take (k + 1)).map gb)) := by
          show _ = _
          rw [HT.out, HG.out, h4, show (⟨#[9]⟩ : ByteArray) = bs [9] from rfl, bs_app]; rfl
        clear h4
        go_wp2_with fail
        go_roundg (N - (k + 1))
        case measure => omega
        case rel => exact ⟨k + 1, by go_num, by rw [ES.out], by omega, by omega, HB.out.alloc hsz _⟩
      · have e4 : (n : Int) % 4 = 2 := by omega
        have ES : Hid (bs pre ++ ⟨#[10]⟩ = bs ((l.take (k + 1)).map gb)) := by
          show _ = _
          rw [HT.out, HG.out, h4, show (⟨#[10]⟩ : ByteArray) = bs [10] from rfl, bs_app]; rfl
        clear h4
        go_wp2_with fail
        go_roundg (N - (k + 1))
        case measure => omega
        case rel => exact ⟨k + 1, by go_num, by rw [ES.out], by omega, by omega, HB.out.alloc hsz _⟩
      · have e4 : (n : Int) % 4 = 3 := by omega
        have ES : Hid (bs pre ++ ⟨#[13]⟩ = bs ((l.take (k + 1)).map gb)) := by
          show _ = _
          rw [HT.out, HG.out, h4, show (⟨#[13]⟩ : ByteArray) = bs [13] from rfl, bs_app]; rfl
        clear h4
        go_wp2_with fail
        go_roundg (N - (k + 1))
        case measure => omega
        case rel => exact ⟨k + 1, by go_num, by rw [ES.out], by omega, by omega, HB.out.alloc hsz _⟩
    · have hkN : k = N := by omega
      subst hkN
      have etk : l.take k = l.take 20 := by
        rcases hN1.2.2 with h | h
        · rw [List.take_of_length_le (by rw [HL.out]; omega), List.take_of_length_le (by rw [HL.out]; omega)]
        · rw [h]
      obtain ⟨pre, hpre⟩ : ∃ pre, (l.take k).map gb = pre := ⟨_, rfl⟩
      rw [hpre] at hz
      rw [hpre]
      rcases Nat.eq_zero_or_pos len with h0 | h0
      · subst h0
        have d1 : ¬ (k : Int) < 0 := by omega
        have HR2 : Hid (bs pre = bs R) := by
          show _ = _
          have hl : l = [] := List.length_eq_zero_iff.1 HL.out
          rw [HR.out, ← hpre, hl]; simp [gapL]
        have hk0 : k = 0 := by omega
        subst hk0
        clear hpre
        go_wp2_with fail
        go_ret
        exact ⟨ret_str HR2.out, HB.out⟩
      · obtain ⟨m, rfl⟩ : ∃ m, len = m + 1 := ⟨len - 1, by omega⟩
        have hml : m < l.length := by rw [HL.out]; omega
        have hc := (H.out.below HB.out H.out.lt).cells m hml
        have hp := H.out.ptr (by omega)
        subst hp
        have hgd : l.getD (l.length - 1) 0 = l[m] := by
          have : l.length - 1 = m := by rw [HL.out]; omega
          rw [this, List.getD_eq_getElem?_getD, List.getElem?_eq_getElem hml]; rfl
        have hne : l ≠ [] := by intro e; rw [e] at hml; simp at hml
        obtain ⟨n, hn⟩ : ∃ n, n = l[m].toNat := ⟨_, rfl⟩
        rw [← hn] at hc
        have hn256 : n < 256 := by rw [hn]; exact UInt8.toNat_lt _
        by_cases h2 : n % 2 = 1
        · have hodd : l ≠ [] ∧ (l.getD (l.length - 1) 0).toNat % 2 = 1 := ⟨hne, by rw [hgd, ← hn]; exact h2⟩
          have e2 : (n : Int) % 2 = 1 := by omega
          clear hgd hne hn h2
          have hm1 : 0 < k := by omega
          have emin : min ((m : Int) + 1) 20 = (k : Int) := by omega
          have HR2 : Hid (bs (pre ++ 35 :: gc (l.take k)) ++ ⟨#[10]⟩ = bs R) := by
            show _ = _
            rw [HR.out, show (⟨#[10]⟩ : ByteArray) = bs [10] from rfl, bs_app]
            unfold gapL
            rw [if_pos hodd, ← hpre]
            have et : l.take k = l.take 20 := etk
            rw [et]; simp
          have ES : Hid (bs pre ++ ⟨#[35]⟩ = bs (pre ++ 35 :: gc (l.take 0))) := by
            show _ = _
            rw [show (⟨#[35]⟩ : ByteArray) = bs [35] from rfl, bs_app]; rfl
          have zp : pre.length ≤ 20 := by rw [← bs_size]; exact hz
          have NN : k ≤ m + 1 := by omega
          have NC : k ≤ cap := by omega
          have hx : ((k : Int) < (m : Int) + 1 ∧ ¬ (k : Int) < 20) ∨ ¬ (k : Int) < (m : Int) + 1 := by omega
          clear hodd hpre hN1 etk
          rcases hx with ⟨d1, d2⟩ | d1
          all_goals
            go_wp2_with fail
            rename World => w3
            have hbs3 : b < w3.heap.size := hb_k (H.out.lt (by omega)) HB.out.size
            have H3 := Lib.hid (H.out.below HB.out H.out.lt)
            go_loopg [3, 48] k (fun g s3 s48 wr => ∃ j : Nat, s48 = .int .i64 j ∧ s3 = .string (bs (pre ++ 35 :: gc (l.take j))) ∧ j ≤ k ∧ k - j ≤ g ∧ Hid (RowKit.Below w3.heap.size w3 wr))
            case atStart => exact ⟨0, rfl, by rw [ES.out], by omega, by omega, Below.refl _ _⟩
            case round =>
              obtain ⟨j, rfl, rfl, hj, hjg, HB4⟩ := hrel
              have hsz4 := HB4.out.size
              by_cases hlt2 : j < k
              · have hjz : (j : Int) < (k : Int) := by omega
                have hjl : j < l.length := by rw [HL.out]; omega
                have hcj := (H3.out.below HB4.out (fun _ => hbs3)).cells j hjl
                have hzz : (bs (pre ++ 35 :: gc (l.take j))).size ≤ 100 := by
                  have : (gc (l.take j)).length ≤ (l.take j).length := List.length_filter_le _ _
                  rw [List.length_take] at this
                  rw [bs_size, List.length_append, List.length_cons]; omega
                obtain ⟨c2, hX⟩ : ∃ c, l[j] = c := ⟨_, rfl⟩
                have HT2 := Lib.hid (gc_take hjl hX)
                rw [hX] at hcj
                have HC2 : Hid (UInt8.ofNat c2.toNat = c2) := UInt8.ofNat_toNat
                have hc2 : c2.toNat < 256 := c2.toNat_lt
                by_cases h10 : c2.toNat = 10
                · have e10 : ((c2.toNat : Int) != 10) = false := by rw [h10]; rfl
                  have ES2 : Hid (bs (pre ++ 35 :: gc (l.take j)) = bs (pre ++ 35 :: gc (l.take (j + 1)))) := by
                    show _ = _
                    rw [HT2.out, if_pos h10, List.append_nil]
                  generalize c2.toNat = n2 at *
                  clear hX h10
                  go_wp2_with fail
                  go_roundg (k - (j + 1))
                  case measure => omega
                  case rel => exact ⟨j + 1, by go_num, by rw [ES2.out], by omega, by omega, HB4.out⟩
                · have e10 : ((c2.toNat : Int) != 10) = true := by simp; omega
                  have ES2 : Hid (bs (pre ++ 35 :: gc (l.take j)) ++ ⟨#[UInt8.ofNat c2.toNat]⟩ = bs (pre ++ 35 :: gc (l.take (j + 1)))) := by
                    show _ = _
                    rw [HT2.out, if_neg h10, HC2.out, show (⟨#[c2]⟩ : ByteArray) = bs [c2] from rfl, bs_app]; simp
                  generalize c2.toNat = n2 at *
                  clear hX h10
                  go_wp2_with fail
                  go_roundg (k - (j + 1))
                  case measure => omega
                  case rel => exact ⟨j + 1, by go_num, by rw [ES2.out], by omega, by omega, HB4.out.alloc hsz4 _⟩
              · have hjz : ¬ (j : Int) < (k : Int) := by omega
                have hjk : j = k := by omega
                subst hjk
                have hzz : (bs (pre ++ 35 :: gc (l.take j))).size ≤ 100 := by
                  have : (gc (l.take j)).length ≤ (l.take j).length := List.length_filter_le _ _
                  rw [List.length_take] at this
                  rw [bs_size, List.length_append, List.length_cons]; omega
                go_wp2_with fail
                go_ret
                exact ⟨ret_str HR2.out, HB.out.trans (HB4.out.mono HB.out.size)⟩
        · have HR2 : Hid (bs pre = bs R) := by
            show _ = _
            rw [HR.out]
            unfold gapL
            rw [if_neg (by rw [hgd, ← hn]; omega), ← hpre, List.append_nil, etk]
          have e2 : (n : Int) % 2 = 0 := by omega
          clear hgd hne hn h2 hpre
          by_cases h3 : k < m + 1
          · have d1 : (k : Int) < (m : Int) + 1 := by omega
            have d2 : ¬ (k : Int) < 20 := by omega
            go_wp2_with fail
            go_ret
            exact ⟨ret_str HR2.out, HB.out⟩
          · have d1 : ¬ (k : Int) < (m : Int) + 1 := by omega
            go_wp2_with fail
            go_ret
            exact ⟨ret_str HR2.out, HB.out⟩
end Go.Proofs.YtoaeceeookknnaaDoor
