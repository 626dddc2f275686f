/-
  The walk of sortedEnds.
-/
import Derived.Test.YtomcngnfdflkkaaSSort
import Derived.Deep.DeepAppendRoom
namespace Go.Proofs.Ytomcngnfdflkkaa
open Go.RowKit Spn Go.Sort

theorem info_end : (Try.prog.info? 57).map (fun i => (i.zero, i.size, i.bytes)) = some (some (.agg #[.int .i64 0, .int .i64 0, .int .i64 0]), 3, 24) := by kernel_rfl
/-- The cells of ends. -/
def flE : List (Int × Int × Int) → List Value
  | [] => []
  | s :: l => vi s.1 :: vi s.2.1 :: vi s.2.2 :: flE l
theorem flE_len : ∀ l, (flE l).length = l.length * 3
  | [] => rfl
  | s :: l => by rw [flE, List.length_cons, List.length_cons, List.length_cons, flE_len, List.length_cons]; omega
theorem flE_app : ∀ l m, flE (l ++ m) = flE l ++ flE m
  | [], _ => rfl
  | s :: l, m => by rw [List.cons_append, flE, flE, flE_app]; rfl
theorem flE_at : ∀ (l : List (Int × Int × Int)) (k : Nat) (h : k < l.length), (flE l)[k * 3]? = some (vi l[k].1) ∧ (flE l)[k * 3 + 1]? = some (vi l[k].2.1) ∧ (flE l)[k * 3 + 2]? = some (vi l[k].2.2)
  | s :: l, 0, _ => ⟨rfl, rfl, rfl⟩
  | s :: l, k + 1, h => by
    have := flE_at l k (by simpa using h)
    rw [show (k + 1) * 3 = k * 3 + 1 + 1 + 1 by omega, flE, List.getElem_cons_succ]
    simp only [List.getElem?_cons_succ]
    exact this
theorem flE_int : ∀ (l : List (Int × Int × Int)) (u : Value), u ∈ flE l → ∃ x, u = vi x
  | s :: l, u, h => by
    rw [flE] at h
    rcases List.mem_cons.1 h with rfl | h
    · exact ⟨_, rfl⟩
    · rcases List.mem_cons.1 h with rfl | h
      · exact ⟨_, rfl⟩
      · rcases List.mem_cons.1 h with rfl | h
        · exact ⟨_, rfl⟩
        · exact flE_int l u h

/-- A slice of the call's own at a block, with room, that reads as ends. -/
def OwnE (w : World) (base g cap n : Nat) (E : List (Int × Int × Int)) : Prop := E.length = n ∧ w.ownsRow base 57 3 (.slice (some ⟨g, 0, none⟩) n cap) n (flE E)
theorem OwnE.alloc {w : World} {base g cap n : Nat} {E : List (Int × Int × Int)} (h : OwnE w base g cap n E) (o : Obj) : OwnE (w.alloc o) base g cap n E := ⟨h.1, World.ownsRow.alloc h.2 o⟩
theorem OwnE.holds {w : World} {base g cap n : Nat} {E : List (Int × Int × Int)} (h : OwnE w base g cap n E) : HoldsK encE 3 w g 0 E.toArray ∧ g < w.heap.size ∧ base ≤ g := by
  obtain ⟨rfl, h⟩ := h
  rcases h.2 with ⟨h0, _⟩ | ⟨g', cap', cur, hv, hg, hb, hn, hc, hs, hx⟩
  · cases h0
  · cases hv
    have cl : ∀ j v, (flE E)[j]? = some v → w.cell? ⟨g, j, none⟩ = some v := fun j v hv => by
      rw [cell_of_row w g j cur _ _ hb]
      have hj : j < E.length * 3 := by
        have := (List.getElem?_eq_some_iff.1 hv).1; rw [flE_len] at this; exact this
      have e := congrArg (fun z => z[j]?) hx
      simp only [List.getElem?_take, hj, if_true] at e
      rw [← Array.getElem?_toList, e, hv]
    refine ⟨fun j hj => ?_, ?_, hg⟩
    · rw [size_flatK, List.size_toArray] at hj
      rw [get_flatK _ _ _ _ (by rw [List.size_toArray]; exact hj)]
      have a := flE_at E (j / 3) (by omega)
      have e0 : E.toArray[j / 3]! = E[j / 3]'(by omega) := by rw [getElem!_pos _ _ (by rw [List.size_toArray]; omega)]; simp
      rw [e0, Nat.zero_add]
      refine ⟨?_, ?_⟩
      · rcases (show j % 3 = 0 ∨ j % 3 = 1 ∨ j % 3 = 2 by omega) with m | m | m
        · rw [m]; have := a.1; exact cl j _ (by rw [show j / 3 * 3 = j by omega] at this; exact this)
        · rw [m]; have := a.2.1; rw [show j / 3 * 3 + 1 = j by omega] at this; exact cl j _ this
        · rw [m]; have := a.2.2; rw [show j / 3 * 3 + 2 = j by omega] at this; exact cl j _ this
      · simp only [World.frozen?, hb]; simp
    · rcases Nat.lt_or_ge g w.heap.size with z | z
      · exact z
      · rw [Array.getElem?_eq_none z] at hb; cases hb
theorem holds_at {w : World} {g : Nat} {d : Array (Int × Int × Int)} (h : HoldsK encE 3 w g 0 d) : AtE w g d.toList := fun k hk => by
  have hk' : k < d.size := by simpa using hk
  have e0 : d[k]! = d.toList[k] := by rw [getElem!_pos d k hk']; simp
  have a := (h.cell hk' (c := 0) (by omega)).1
  have b := (h.cell hk' (c := 1) (by omega)).1
  have c := (h.cell hk' (c := 2) (by omega)).1
  rw [e0, Nat.zero_add] at a b c
  exact ⟨a, b, c⟩
theorem below_sort (w : World) (B g n : Nat) (d : Array (Int × Int × Int)) (os : Array Obj) (hB : B ≤ g) (hs : B ≤ w.heap.size) : RowKit.Below B w (sortWorldK encE 3 w g 0 n d os) := by
  refine ⟨rfl, rfl, rfl, size_sortWorldK_c encE 3 w g 0 n d os, fun k hk => ?_⟩
  unfold sortWorldK
  rw [heap_grow_old _ _ (by rw [size_putRowK]; show k < w.heap.size; omega)]
  unfold putRowK putRow mapBlock
  show (w.heap.modify g _)[k]? = _
  rw [Array.getElem?_modify]
  rw [if_neg (by omega)]

/-- Two ends that lie in a new block. -/
theorem news_two (w : World) (n : Nat) (hn : n = w.heap.size) (x y c : Int) (T : TypeId) : ∀ j u, (flE [(x, c, 1), (y, c, -1)])[j]? = some u → (w.alloc (.cells #[.int .i64 x, .int .i64 c, .int .i64 1, .int .i64 y, .int .i64 c, .int .i64 (-1)] T)).cell? ((⟨n, 0, none⟩ : Addr).add j) = some u := by
  intro j u hu
  subst hn
  rw [addr_add, Nat.zero_add, World.cell?_alloc_new]
  rw [← Array.getElem?_toList]; exact hu
theorem list_appE {w : World} {ops : Array Oper} {rest : List Oper} {o : Oper} {a : Act} {Q : Exit → Act → World → Prop} (hgd : o.guard = none) (s x : Operand)
    (ho : o.op = .call { callee := .builtin .append, args := #[s, x], argTypes := #[54, 54] })
    (base g n cap : Nat) (E : List (Int × Int × Int)) (hs : a.eval s = .slice (some ⟨g, 0, none⟩) n cap) (hown : OwnE w base g cap n E) (ad : Addr) (c : Nat) (k : List (Int × Int × Int)) (hl : k.length = 2) (hx : a.eval x = .slice (some ad) 2 c) (hnews : ∀ j u, (flE k)[j]? = some u → w.cell? (ad.add j) = some u)
    (hroom : n + 2 ≤ cap)
    (h : ∀ w', OwnE w' base g cap (n + 2) (E ++ k) → w.grownBy w' (some g) → wpList Try.prog ops Q rest (a.put o.dst (.slice (some ⟨g, 0, none⟩) (n + 2) cap)) w') : wpList Try.prog ops Q (o :: rest) a w := by
  obtain ⟨i, hi, hz⟩ := Option.map_eq_some_iff.1 info_end
  simp only [Prod.mk.injEq] at hz
  refine wpList_append_own_spare w hgd s x 54 ho base 57 i 3 Try.underlying54 hi hz.2.1 g n cap (flE E) hs hown.2 ad 2 c (flE k) hx (by rw [flE_len, hl]) hnews (fun u hu => by obtain ⟨x, rfl⟩ := flE_int k u hu; rfl) hroom fun w' h1 h2 => h w' ⟨by rw [List.length_append, hown.1, hl], ?_⟩ h2
  rw [flE_app]; exact h1

theorem by_call (w : World) : Calls Try.prog 43 #[.func (.func 44) #[] #[]] w
    fun e w' => e = .returned (.func (.func 47) #[] #[.pointer (some ⟨w.heap.size, 0, none⟩)]) ∧ w.alloc (.cells #[.func (.func 44) #[] #[]] 63) = w' := by
  go_enter Try.func43, Try.ntmps43
  go_wp2
  go_ret
  exact ⟨rfl, rfl⟩

/-- What has been gathered when so many of the two lists are done. -/
def EL (a b : List (Int × Int)) (k : Nat) : List (Int × Int × Int) := if k = 0 then [] else if k = 1 then ends 0 a else ends 0 a ++ ends 1 b

set_option maxHeartbeats 2000000 in
set_option maxRecDepth 100000 in
theorem ends_any (a b : List (Int × Int)) (p p' : Option Addr) (bl off cap len bl' off' cap' len' : Nat) (w : World) (hS : Sl w p bl off len a) (hS' : Sl w p' bl' off' len' b) (ha : ∀ s, s ∈ a → st s = true) (hb : ∀ s, s ∈ b → st s = true) (hn : len + len' ≤ 1099511627776) :
    Calls Try.prog 40 #[.slice p len cap, .slice p' len' cap'] w fun e w' => OutE w a b e w' := by
  have HS := Lib.hid hS
  have HS' := Lib.hid hS'
  have HL := Lib.hid hS.1
  have HL' := Lib.hid hS'.1
  have HA := Lib.hid ha
  have HB' := Lib.hid hb
  obtain ⟨i0, hi, hz⟩ := Option.map_eq_some_iff.1 info_end
  simp only [Prod.mk.injEq] at hz
  obtain ⟨hz0, hz1, hz2⟩ := hz
  clear hS hS' ha hb
  go_enter Try.func40, Try.ntmps40
  go_wp2_with (first | (at_make; refine wpList_make_own _ rfl _ _ 54 rfl w.heap.size 57 i0 _ 3 Try.underlying54 hi hz0 hz1 _ _ _ (2 * (len + len')) rfl rfl (by omega) (by rw [hz2]; omega) (by unfold maxLen; omega) (Nat.le_refl _) ?_; intro w1 hown1 hgrow1) | fail)
  obtain ⟨N, hN⟩ : ∃ N, N = 2 * (len + len') := ⟨_, rfl⟩
  rw [← hN] at hown1 ⊢
  have HO1 : Hid (OwnE w1 w.heap.size w.heap.size N 0 []) := ⟨rfl, hown1⟩
  have HB1 : Hid (RowKit.Below w.heap.size w w1) := (Below.refl _ _).grown hgrow1 (Nat.le_refl _) (fun _ h => by cases h)
  have hN' : N ≤ 2199023255552 := by omega
  have HN := Lib.hid hN
  clear hown1 hgrow1 hi hz0 hz1 hz2 hN
  obtain ⟨G, hG⟩ : ∃ G, G = w.heap.size := ⟨_, rfl⟩
  rw [← hG] at HO1 ⊢
  have HG := Lib.hid hG
  clear hG
  go_loopg [5, 20] (2 : Nat) (fun g s5 s20 wr => ∃ (k n : Nat), s20 = .int .i64 k ∧ s5 = .slice (some ⟨G, 0, none⟩) n N ∧ k ≤ 2 ∧ 2 - k ≤ g ∧ Hid (OwnE wr G G N n (EL a b k)) ∧ Hid (RowKit.Below w.heap.size w wr))
  case atStart => exact ⟨0, 0, rfl, rfl, by omega, by omega, HO1.out, HB1.out⟩
  case round =>
    obtain ⟨k, n, rfl, rfl, hk, hkg, HO, HB⟩ := hrel
    clear HO1 HB1 w1
    by_cases hlt : k < 2
    · rcases (show k = 0 ∨ k = 1 by omega) with rfl | rfl
      · have hltz : ((0 : Nat) : Int) < 2 := by omega
        obtain ⟨wo, hwo⟩ : ∃ wo : World, wo = wr := ⟨_, rfl⟩
        have HOo := HO
        have hn0 : n = 0 := by have := HO.out.1; rw [← this]; rfl
        subst hn0
        have hix : ∀ w, (Instr.index 59 (.agg #[.slice p len cap, .slice p' len' cap']) (.int .i64 0)).run Try.prog w = .ok (.slice p len cap) w := fun _ => by kernel_rfl
        go_wp2_with fail
        go_loopg [5, 26] len (fun g2 s5 s26 wr2 => ∃ (j n2 : Nat), s26 = .int .i64 j ∧ s5 = .slice (some ⟨G, 0, none⟩) n2 N ∧ j ≤ len ∧ len - j ≤ g2 ∧ n2 = 0 + 2 * j ∧ Hid (OwnE wr2 G G N n2 ([] ++ ends 0 (a.take j))) ∧ Hid (RowKit.Below w.heap.size w wr2))
        case atStart => exact ⟨0, _, rfl, rfl, by omega, by omega, by omega, HO.out, HB.out⟩
        case round =>
          obtain ⟨j, n2, rfl, rfl, hj, hjg, hn2, HO2, HB2⟩ := hrel
          by_cases hlj : j < len
          · have hljz : (j : Int) < (len : Int) := by omega
            have hp1 := HS.out.2.1 (by omega)
            have hjl : j < a.length := by rw [HL.out]; exact hlj
            have HS2 := Lib.hid (HS.out.below HB2.out)
            obtain ⟨x, hx⟩ : ∃ x, x = a[j].1 := ⟨_, rfl⟩
            obtain ⟨y, hy⟩ : ∃ x, x = a[j].2 := ⟨_, rfl⟩
            have d1 := (HS2.out.2.2.1 j hjl).1
            have d2 := (HS2.out.2.2.1 j hjl).2
            rw [← hx] at d1
            rw [← hy] at d2
            have HT : Hid ([] ++ ends 0 (a.take (j + 1)) = ([] ++ ends 0 (a.take j)) ++ [(x, 0, 1), (y, 0, -1)]) := by show _ = _; rw [ends_take hjl, ← hx, ← hy, List.append_assoc]
            have HR2 : Hid (n2 + 2 ≤ N) := by show _ ≤ _; have := HN.out; omega
            have HZ2 : Hid (G ≤ wr.heap.size) := by show _ ≤ _; have := HB2.out.size; have := HG.out; omega
            have HN2 := Lib.hid hn2
            clear hx hy hn2
            subst hp1
            go_wp2_with (first | (at_builtin; refine list_appE rfl _ _ rfl G G n2 N ([] ++ ends 0 (a.take j)) rfl ((HO2.out.alloc _).alloc _) ⟨_, 0, none⟩ 2 [(x, 0, 1), (y, 0, -1)] rfl rfl (news_two _ (wr.heap.size + 1) (by simp) x y 0 _) HR2.out ?_; intro w3 own3 grow3) | fail)
            have HO3 : Hid (OwnE w3 G G N (n2 + 2) ([] ++ ends 0 (a.take (j + 1)))) := by show OwnE _ _ _ _ _ _; rw [HT.out]; exact own3
            have HB3 : Hid (RowKit.Below w.heap.size w w3) := (((HB2.out.alloc HB2.out.size _).alloc (by have := HB2.out.size; simp; omega) _).grown grow3 (by have := HB2.out.size; simp; omega) (fun k hk => by cases hk; have := HG.out; omega))
            clear own3 grow3
            go_wp2
            go_roundg (len - (j + 1))
            case measure => omega
            case rel => exact ⟨j + 1, n2 + 2, by go_num, rfl, by omega, by omega, by have := HN2.out; omega, HO3, HB3⟩
          · have hljz : ¬ (j : Int) < (len : Int) := by omega
            have HO3 : Hid (OwnE wr G G N n2 (EL a b (0 + 1))) := by
              have := HO2.out
              rw [List.take_of_length_le (by have := HL.out; omega)] at this
              exact this
            clear hn2
            go_wp2
            go_roundg (2 - (0 + 1))
            case measure => omega
            case rel => exact ⟨0 + 1, n2, rfl, rfl, by omega, by omega, HO3, HB2⟩
      · have hltz : ((1 : Nat) : Int) < 2 := by omega
        obtain ⟨wo, hwo⟩ : ∃ wo : World, wo = wr := ⟨_, rfl⟩
        have HOo := HO
        have hn0 : n = (2 * len) := by have := HO.out.1; rw [← this]; show (ends 0 a).length = _; rw [ends_length, HL.out]
        subst hn0
        have hix : ∀ w, (Instr.index 59 (.agg #[.slice p len cap, .slice p' len' cap']) (.int .i64 1)).run Try.prog w = .ok (.slice p' len' cap') w := fun _ => by kernel_rfl
        go_wp2_with fail
        go_loopg [5, 26] len' (fun g2 s5 s26 wr2 => ∃ (j n2 : Nat), s26 = .int .i64 j ∧ s5 = .slice (some ⟨G, 0, none⟩) n2 N ∧ j ≤ len' ∧ len' - j ≤ g2 ∧ n2 = (2 * len) + 2 * j ∧ Hid (OwnE wr2 G G N n2 ((ends 0 a) ++ ends 1 (b.take j))) ∧ Hid (RowKit.Below w.heap.size w wr2))
        case atStart => exact ⟨0, _, rfl, rfl, by omega, by omega, by omega, (by have := HO.out; show OwnE _ _ _ _ _ (ends 0 a ++ []); rw [List.append_nil]; exact this), HB.out⟩
        case round =>
          obtain ⟨j, n2, rfl, rfl, hj, hjg, hn2, HO2, HB2⟩ := hrel
          by_cases hlj : j < len'
          · have hljz : (j : Int) < (len' : Int) := by omega
            have hp1 := HS'.out.2.1 (by omega)
            have hjl : j < b.length := by rw [HL'.out]; exact hlj
            have HS2 := Lib.hid (HS'.out.below HB2.out)
            obtain ⟨x, hx⟩ : ∃ x, x = b[j].1 := ⟨_, rfl⟩
            obtain ⟨y, hy⟩ : ∃ x, x = b[j].2 := ⟨_, rfl⟩
            have d1 := (HS2.out.2.2.1 j hjl).1
            have d2 := (HS2.out.2.2.1 j hjl).2
            rw [← hx] at d1
            rw [← hy] at d2
            have HT : Hid ((ends 0 a) ++ ends 1 (b.take (j + 1)) = ((ends 0 a) ++ ends 1 (b.take j)) ++ [(x, 1, 1), (y, 1, -1)]) := by show _ = _; rw [ends_take hjl, ← hx, ← hy, List.append_assoc]
            have HR2 : Hid (n2 + 2 ≤ N) := by show _ ≤ _; have := HN.out; omega
            have HZ2 : Hid (G ≤ wr.heap.size) := by show _ ≤ _; have := HB2.out.size; have := HG.out; omega
            have HN2 := Lib.hid hn2
            clear hx hy hn2
            subst hp1
            go_wp2_with (first | (at_builtin; refine list_appE rfl _ _ rfl G G n2 N ((ends 0 a) ++ ends 1 (b.take j)) rfl ((HO2.out.alloc _).alloc _) ⟨_, 0, none⟩ 2 [(x, 1, 1), (y, 1, -1)] rfl rfl (news_two _ (wr.heap.size + 1) (by simp) x y 1 _) HR2.out ?_; intro w3 own3 grow3) | fail)
            have HO3 : Hid (OwnE w3 G G N (n2 + 2) ((ends 0 a) ++ ends 1 (b.take (j + 1)))) := by show OwnE _ _ _ _ _ _; rw [HT.out]; exact own3
            have HB3 : Hid (RowKit.Below w.heap.size w w3) := (((HB2.out.alloc HB2.out.size _).alloc (by have := HB2.out.size; simp; omega) _).grown grow3 (by have := HB2.out.size; simp; omega) (fun k hk => by cases hk; have := HG.out; omega))
            clear own3 grow3
            go_wp2
            go_roundg (len' - (j + 1))
            case measure => omega
            case rel => exact ⟨j + 1, n2 + 2, by go_num, rfl, by omega, by omega, by have := HN2.out; omega, HO3, HB3⟩
          · have hljz : ¬ (j : Int) < (len' : Int) := by omega
            have HO3 : Hid (OwnE wr G G N n2 (EL a b (1 + 1))) := by
              have := HO2.out
              rw [List.take_of_length_le (by have := HL'.out; omega)] at this
              exact this
            clear hn2
            go_wp2
            go_roundg (2 - (1 + 1))
            case measure => omega
            case rel => exact ⟨1 + 1, n2, rfl, rfl, by omega, by omega, HO3, HB2⟩
    · have hltz : ¬ (k : Int) < (2 : Int) := by omega
      obtain rfl : k = 2 := by omega
      have HH := HO.out.holds
      have hlen := HO.out.1
      obtain ⟨E0, hE0⟩ : ∃ E0, E0 = EL a b 2 := ⟨_, rfl⟩
      rw [← hE0] at HH hlen
      have hEl : E0.length = 2 * (len + len') := by
        rw [hE0]; show (ends 0 a ++ ends 1 b).length = _
        rw [List.length_append, ends_length, ends_length, HL.out, HL'.out]; omega
      have HE0 : Hid (E0 = ends 0 a ++ ends 1 b) := hE0
      clear hE0 HO
      go_wp2_with fail
      refine (by_call _).mono ?_
      rintro _ w2 ⟨rfl, rfl⟩
      have hH1 : HoldsK encE 3 (wr.alloc (.cells #[.func (.func 44) #[] #[]] 63)) G 0 E0.toArray := by rw [alloc_eq_grow]; exact holdsK_grow encE 3 wr _ G 0 _ HH.2.1 HH.1
      have K := Lib.hid (sort_any wr.heap.size G N E0.toArray (wr.alloc (.cells #[.func (.func 44) #[] #[]] 63)) (by rw [World.cell?_alloc_new]; rfl) (by simp) (by have := HH.2.1; omega) hH1 (by simp; have := HH.2.1; omega) (by rw [List.size_toArray]; omega))
      rw [List.size_toArray, hlen] at K
      have HH1 := Lib.hid hH1
      have HGL := Lib.hid HH.2.1
      have HEl := Lib.hid hEl
      have Hlen := Lib.hid hlen
      clear hH1 HH hEl hlen
      go_wp2_with fail
      refine K.out.mono ?_
      rintro _ w3 ⟨rfl, d', nn, os, hp, hso, rfl⟩
      have hds : d'.size = E0.length := by have := hp.1; rw [List.size_toArray] at this; exact this
      have hW := holdsK_sortWorldK_c encE 3 (wr.alloc (.cells #[.func (.func 44) #[] #[]] 63)) G 0 E0.toArray d' nn os HH1.out (by simp; have := HGL.out; omega) (by rw [hds, List.size_toArray])
      have hBW := below_sort (wr.alloc (.cells #[.func (.func 44) #[] #[]] 63)) w.heap.size G nn d' os (by have := HG.out; omega) (by have := HB.out.size; simp; omega)
      have hBW2 := ((HB.out.alloc HB.out.size (.cells #[.func (.func 44) #[] #[]] 63)).trans hBW)
      have hsz := size_sortWorldK_c encE 3 (wr.alloc (.cells #[.func (.func 44) #[] #[]] 63)) G 0 nn d' os
      rw [World.size_alloc] at hsz
      generalize sortWorldK encE 3 (wr.alloc (.cells #[.func (.func 44) #[] #[]] 63)) G 0 nn d' os = W at hW hBW2 hsz ⊢
      have hR : OutE w a b (.returned (.slice (some ⟨G, 0, none⟩) n N)) W := by
        refine ⟨G, N, d'.toList, ?_, holds_at hW, by have := HG.out; omega, by have := HGL.out; omega, ⟨?_, ?_, fun s hs => ((st_iff s).1 (HA.out s hs)).2.1, fun s hs => ((st_iff s).1 (HB'.out s hs)).2.1⟩, hBW2⟩
        · have := Hlen.out; simp [hds, this]
        · have h3 := hp.2.2
          have x1 : d'.extract 0 n = d' := by rw [← Hlen.out, ← hds]; exact Array.extract_size
          have x2 : E0.toArray.extract 0 n = E0.toArray := by rw [← Hlen.out, ← List.size_toArray]; exact Array.extract_size
          rw [x1, x2] at h3
          rw [← HE0.out]
          exact h3
        · intro i j hi hj hij
          have := hso i j (Nat.zero_le _) hij (by rw [← Hlen.out, ← hds]; simpa using hj)
          rw [ltE] at this
          have e1 : d'[i]! = d'.toList[i] := by rw [getElem!_pos d' i (by simpa using hi)]; simp
          have e2 : d'[j]! = d'.toList[j] := by rw [getElem!_pos d' j (by simpa using hj)]; simp
          rw [e1, e2] at this
          simpa using this
      have HR := Lib.hid hR
      clear hR hW hBW hBW2 hp hso hds
      go_wp2
      go_ret
      exact HR.out
end Go.Proofs.Ytomcngnfdflkkaa
