/-
  Contract of the reference's result.
-/
import Derived.Test.YtmjdolgcgbiajaaPLaw
namespace Go.Proofs.Ytmjdolgcgbiajaa
open Go.RowKit Go.Shelf Pw

def rfW : RP → List RP → List RP
  | _, [] => []
  | a, b :: t => if cW a b then rfW b t else b :: rfW b t
/-- Reduced, as the machine decides it. -/
def rdW : List RP → List RP
  | [] => []
  | a :: t => a :: rfW a t
def lastW : RP → List RP → RP
  | a, [] => a
  | _, b :: t => lastW b t
theorem rfW_snoc : ∀ {a : RP} {l : List RP} {x : RP}, rfW a (l ++ [x]) = if cW (lastW a l) x then rfW a l else rfW a l ++ [x]
  | a, [], x => by
    rw [List.nil_append, rfW, rfW, lastW, rfW]
    rfl
  | a, b :: t, x => by
    rw [List.cons_append, rfW, rfW, rfW_snoc (a := b) (l := t) (x := x), lastW]
    by_cases h : cW a b = true
    · rw [if_pos h, if_pos h]
    · rw [if_neg h, if_neg h]
      by_cases h2 : cW (lastW b t) x = true
      · rw [if_pos h2, if_pos h2]
      · rw [if_neg h2, if_neg h2]; rfl
theorem lastW_take : ∀ {t : List RP} {a : RP} {k : Nat} (hk : k < t.length + 1), lastW a (t.take k) = (a :: t)[k]'(by simpa using hk)
  | t, a, 0, _ => by simp [lastW]
  | [], a, k + 1, h => by simp at h
  | b :: t, a, k + 1, h => by
    rw [List.take_succ_cons, lastW, lastW_take (t := t) (a := b) (k := k) (by simpa using h)]
    rfl
theorem rdW_take {l : List RP} {k : Nat} (h0 : 0 < k) (hk : k < l.length) : rdW (l.take (k + 1)) = if cW (l[k - 1]'(by omega)) l[k] then rdW (l.take k) else rdW (l.take k) ++ [l[k]] := by
  cases l with
  | nil => simp at hk
  | cons a t =>
    obtain ⟨k, rfl⟩ : ∃ j, k = j + 1 := ⟨k - 1, by omega⟩
    have hk' : k < t.length := by simpa using hk
    rw [List.take_succ_cons, List.take_succ_cons, List.take_succ_eq_append_getElem hk', rdW, rdW, rfW_snoc, lastW_take (by omega)]
    simp only [Nat.add_sub_cancel, List.getElem_cons_succ]
    by_cases h2 : cW ((a :: t)[k]'(by simp; omega)) t[k] = true
    · rw [if_pos h2, if_pos h2]
    · rw [if_neg h2, if_neg h2]; rfl
theorem rdW_zero {l : List RP} (hk : 0 < l.length) : rdW (l.take 1) = [l[0]] := by
  cases l with
  | nil => simp at hk
  | cons a t => simp [rdW, rfW]
theorem rfW_sub : ∀ {a : RP} {l : List RP} {q : RP}, q ∈ rfW a l → q ∈ l
  | _, [], _, h => h
  | a, b :: t, q, h => by
    rw [rfW] at h
    split at h
    · exact List.mem_cons_of_mem _ (rfW_sub h)
    · rcases List.mem_cons.1 h with rfl | h
      · exact List.mem_cons_self
      · exact List.mem_cons_of_mem _ (rfW_sub h)
theorem rdW_sub {l : List RP} {q : RP} (h : q ∈ rdW l) : q ∈ l := by
  cases l with
  | nil => exact h
  | cons a t =>
    rcases List.mem_cons.1 h with rfl | h
    · exact List.mem_cons_self
    · exact List.mem_cons_of_mem _ (rfW_sub h)
theorem rfW_len : ∀ {a : RP} {l : List RP}, (rfW a l).length ≤ l.length
  | _, [] => Nat.le_refl _
  | a, b :: t => by
    rw [rfW]
    have := rfW_len (a := b) (l := t)
    split <;> simp <;> omega
theorem rdW_len (l : List RP) : (rdW l).length ≤ l.length := by
  cases l with
  | nil => exact Nat.le_refl _
  | cons a t => have := rfW_len (a := a) (l := t); simp [rdW]; omega
/-- A piece alone, at 0, is a function if it is within the limits. -/
theorem vR_one (vn vd sn sd f : Int) : vR [⟨0, vn, vd, sn, sd⟩] = wl ⟨f, vn, vd, sn, sd⟩ := by
  have e : wl ⟨f, vn, vd, sn, sd⟩ = wl ⟨0, vn, vd, sn, sd⟩ := rfl
  rw [e]
  cases h : wl ⟨0, vn, vd, sn, sd⟩ with
  | true => exact vR_iff.2 ⟨by simp, by simp, fun _ => rfl, fun j hj _ => by
      obtain rfl : j = 0 := by simp at hj; omega
      exact ⟨fun h0 => by omega, by simp, h⟩⟩
  | false =>
    refine vR_no fun k => ?_
    have := (k.2.2.2 0 (by simp) (by simp)).2.2
    rw [show ([(⟨0, vn, vd, sn, sd⟩ : RP)])[0] = ⟨0, vn, vd, sn, sd⟩ from rfl, h] at this
    cases this

theorem slp_at (w : World) (nb : Nat) (hnb : nb = w.heap.size) (l : List RP) (cells : Array Value) (T : TypeId) (n : Nat) (hn : l.length = n) (h : cells.toList = flP l) (hm : n ≤ 1000) (hI : ∀ s, s ∈ l → s.In) : SlP (w.alloc (.cells cells T)) (some ⟨nb, 0, none⟩) nb 0 n l := by
  subst hnb; exact slp_new w l cells T n hn h hm hI
set_option maxRecDepth 100000 in
set_option maxHeartbeats 4000000 in
theorem rresult_any (l : List RP) (p : Option Addr) (b off cap len : Nat) (w : World) (hS : SlP w p b off len l) (hd : ∀ q, q ∈ l → 1 ≤ liD q) (hlen : len ≤ 1000000) :
    Calls Try.prog 46 #[.slice p len cap] w fun e w' => OutP (RowKit.Below w.heap.size w) (chR (rdW l)).1 (chR (rdW l)).2 e w' := by
  have HS := Lib.hid hS
  have HD := Lib.hid hd
  have HL := Lib.hid hS.ln
  have hpp := hS.ptr
  have hrl := rdW_len l
  have hrs := fun q (h : q ∈ rdW l) => hS.num q (rdW_sub h)
  obtain ⟨R, hR⟩ : ∃ R, R = rdW l := ⟨_, rfl⟩
  rw [← hR] at hrl hrs ⊢
  have HR := Lib.hid hR
  have HRL : Hid (R.length ≤ len) := by show _ ≤ _; rw [← HL.out]; exact hrl
  have HRS := Lib.hid hrs
  clear hS hd hR hrl hrs
  go_enter Try.func46, Try.ntmps46
  go_wp2_with fail
  go_loopg [4, 5] len (fun q s4 s5 wr => ∃ k : Nat, s5 = .int .i64 k ∧ k ≤ len ∧ len - k ≤ q ∧ Hid (RowKit.Below w.heap.size w wr) ∧ Hid (OwnP wr w.heap.size s4 (rdW (l.take k))))
  case atStart => exact ⟨0, rfl, by omega, by omega, Below.refl _ _, OwnP.empty _ _⟩
  case round =>
    obtain ⟨k, rfl, hk, hkq, HB, HO⟩ := hrel
    by_cases hlt : k < len
    · have hltz : (k : Int) < (len : Int) := by omega
      have hp := hpp (by omega)
      subst hp
      have hkl : k < l.length := by rw [HL.out]; exact hlt
      have HTL := Lib.hid (show (rdW (l.take k)).length ≤ 1000000 from by have := rdW_len (l.take k); rw [List.length_take] at this; omega)
      by_cases hk0 : 0 < k
      · have hk0z : (0 : Int) < (k : Int) := by omega
        have hk1 : k - 1 < l.length := by omega
        obtain ⟨x0, x1, x2, x3, x4⟩ := (HS.out.below HB.out).cells k hkl
        obtain ⟨y0, y1, y2, y3, y4⟩ := (HS.out.below HB.out).cells (k - 1) hk1
        have hbr := (HS.out.below HB.out).lt (by omega)
        have hT := rdW_take hk0 hkl
        obtain ⟨X, hX⟩ : ∃ X, X = l[k] := ⟨_, rfl⟩
        obtain ⟨Y, hY⟩ : ∃ Y, Y = l[k - 1] := ⟨_, rfl⟩
        rw [← hX] at x0 x1 x2 x3 x4 hT
        rw [← hY] at y0 y1 y2 y3 y4 hT
        have K := Lib.hid (fun w => rcont_w Y X w (HD.out Y (by rw [hY]; exact List.getElem_mem _)))
        obtain ⟨d, hd⟩ : ∃ d, d = cW Y X := ⟨_, rfl⟩
        rw [← hd] at K hT
        have HX := Lib.hid hX
        clear hX hY hd
        unfold RP.V at K
        replace x0 := cell_bw (by show b < _; exact hbr) x0
        replace x1 := cell_bw (by show b < _; exact hbr) x1
        replace x2 := cell_bw (by show b < _; exact hbr) x2
        replace x3 := cell_bw (by show b < _; exact hbr) x3
        replace x4 := cell_bw (by show b < _; exact hbr) x4
        replace y0 := cell_bw (by show b < _; exact hbr) y0
        replace y1 := cell_bw (by show b < _; exact hbr) y1
        replace y2 := cell_bw (by show b < _; exact hbr) y2
        replace y3 := cell_bw (by show b < _; exact hbr) y3
        replace y4 := cell_bw (by show b < _; exact hbr) y4
        cases d with
        | true =>
          rw [if_pos rfl] at hT
          have HT := Lib.hid hT
          clear hT
          go_wp2_with fail
          refine wp_region_bw mixed (by kernel_rfl) ?_
          repeat (go_big_quiet_step ((with_reducible refine Calls.bw_of (K.out _))))
          refine wpQuiet_nil ?_
          intro W HW
          replace HW := bw_out HW
          have HO2 := Lib.hid (HO.out.below HW)
          have HB2 := Lib.hid (HB.out.trans (HW.mono HB.out.size))
          clear HW
          go_wp2_with fail
          go_roundg (len - (k + 1))
          case measure => omega
          case rel => exact ⟨k + 1, by go_num, by omega, by omega, HB2.out, by show OwnP _ _ _ _; rw [HT.out]; exact HO2.out⟩
        | false =>
          rw [if_neg (by simp)] at hT
          have HT := Lib.hid hT
          clear hT
          go_wp2_with fail
          refine wp_region_bw mixed (by kernel_rfl) ?_
          repeat (go_big_quiet_step ((with_reducible refine Calls.bw_of (K.out _))))
          refine wpQuiet_nil ?_
          intro W HW
          replace HW := bw_out HW
          have HO2 := Lib.hid (HO.out.below HW)
          have HB2 := Lib.hid (HB.out.trans (HW.mono HB.out.size))
          clear HW x0 x1 x2 x3 x4 y0 y1 y2 y3 y4
          obtain ⟨x0, x1, x2, x3, x4⟩ := (HS.out.below HB2.out).cells k hkl
          rw [← HX.out] at x0 x1 x2 x3 x4
          go_wp2_with (first | (at_builtin; refine list_appP rfl _ _ rfl w.heap.size _ _ rfl (HO2.out.alloc _) _ 1 X rfl (OneP.new _ X _) (by have := HTL.out; omega) (by have := HB2.out.size; simp; omega) ?_; intro v5 W5 own5 grow5) | fail)
          have HB5 : Hid (RowKit.Below w.heap.size w W5) := (HB2.out.alloc HB2.out.size _).grown grow5 (by have := HB2.out.size; simp; omega) HO2.out.block
          have HO5 : Hid (OwnP W5 w.heap.size v5 (rdW (l.take (k + 1)))) := by show OwnP _ _ _ _; rw [HT.out]; exact own5
          clear own5 grow5
          go_wp2
          go_roundg (len - (k + 1))
          case measure => omega
          case rel => exact ⟨k + 1, by go_num, by omega, by omega, HB5.out, HO5.out⟩
      · have hk0z : ¬ (0 : Int) < (k : Int) := by omega
        have ek : k = 0 := by omega
        obtain ⟨x0, x1, x2, x3, x4⟩ := (HS.out.below HB.out).cells k hkl
        obtain ⟨X, hX⟩ : ∃ X, X = l[k] := ⟨_, rfl⟩
        rw [← hX] at x0 x1 x2 x3 x4
        have HT : Hid (rdW (l.take (k + 1)) = rdW (l.take k) ++ [X]) := by
          show _ = _
          rw [hX]
          subst ek
          rw [rdW_zero hkl]
          rfl
        clear hX ek
        go_wp2_with (first | (at_builtin; refine list_appP rfl _ _ rfl w.heap.size _ _ rfl (HO.out.alloc _) _ 1 X rfl (OneP.new _ X _) (by have := HTL.out; omega) (by have := HB.out.size; simp; omega) ?_; intro v5 W5 own5 grow5) | fail)
        have HB5 : Hid (RowKit.Below w.heap.size w W5) := (HB.out.alloc HB.out.size _).grown grow5 (by have := HB.out.size; simp; omega) HO.out.block
        have HO5 : Hid (OwnP W5 w.heap.size v5 (rdW (l.take (k + 1)))) := by show OwnP _ _ _ _; rw [HT.out]; exact own5
        clear own5 grow5
        go_wp2
        go_roundg (len - (k + 1))
        case measure => omega
        case rel => exact ⟨k + 1, by go_num, by omega, by omega, HB5.out, HO5.out⟩
    · have hltz : ¬ (k : Int) < (len : Int) := by omega
      have eR : l.take k = l := List.take_of_length_le (by have := HL.out; omega)
      have hO := HO.out
      rw [eR, ← HR.out] at hO
      obtain ⟨p2, b2, cp, hv, hS2⟩ := hO.reads (by have := HRL.out; omega) HRS.out
      obtain ⟨m, hm⟩ : ∃ m, m = R.length := ⟨_, rfl⟩
      rw [← hm] at hv hS2
      subst hv
      have HM := Lib.hid hm
      have hm1 : m ≤ 1000000 := by have := HRL.out; omega
      have HS2 := Lib.hid hS2
      have hpp2 := hS2.ptr
      clear hS2 hO eR hm
      go_wp2_with fail
      rename World => wo
      go_loopg [7] m (fun q s7 wr => ∃ k : Nat, s7 = .int .i64 k ∧ k ≤ m ∧ m - k ≤ q ∧ Hid (RowKit.Below wo.heap.size wo wr) ∧ Hid (∀ (j : Nat) (h : j < R.length), j < k → wl R[j] = true))
      case atStart => exact ⟨0, rfl, by omega, by omega, Below.refl _ _, fun j h hj => by omega⟩
      case round =>
        obtain ⟨k, rfl, hk, hkq, HBr, HD2⟩ := hrel
        have HBw := Lib.hid (HB.out.trans (HBr.out.mono HB.out.size))
        by_cases hlt : k < m
        · have hltz : (k : Int) < (m : Int) := by omega
          have hp := hpp2 (by omega)
          subst hp
          have hkl : k < R.length := by rw [← HM.out]; exact hlt
          obtain ⟨x0, x1, x2, x3, x4⟩ := (HS2.out.below HBr.out).cells k hkl
          simp only [Nat.zero_add] at x0 x1 x2 x3 x4
          have hIn := HRS.out R[k] (List.getElem_mem hkl)
          obtain ⟨c, hc⟩ : ∃ c, c = wl R[k] := ⟨_, rfl⟩
          have HC := Lib.hid hc
          obtain ⟨X, hX⟩ : ∃ X, X = R[k] := ⟨_, rfl⟩
          rw [← hX] at x0 x1 x2 x3 x4 hIn hc
          have hV : vR [⟨0, X.vn, X.vd, X.sn, X.sd⟩] = c := by rw [hc]; exact vR_one X.vn X.vd X.sn X.sd X.f
          have hV2 : ∀ s, s ∈ [(⟨0, X.vn, X.vd, X.sn, X.sd⟩ : RP)] → s.In := fun s hs => by
            rw [List.mem_singleton.1 hs]
            exact ⟨by unfold In64; simp only; omega, hIn.2⟩
          have HV := Lib.hid (And.intro hV hV2)
          clear hX hc hIn hV hV2
          cases c with
          | false =>
            have E := Lib.hid (chR_no hkl HC.out.symm)
            go_wp2_with fail
            refine (rvalid_b [⟨0, X.vn, X.vd, X.sn, X.sd⟩] false HV.out.1 (some ⟨wr.heap.size + 1, 0, none⟩) (wr.heap.size + 1) 0 1 1 _ (slp_at (wr.alloc (.cells #[.int .i64 0, .int .i64 X.vn, .int .i64 X.vd, .int .i64 X.sn, .int .i64 X.sd] 51)) (wr.heap.size + 1) (by simp) [⟨0, X.vn, X.vd, X.sn, X.sd⟩] _ _ 1 rfl rfl (by omega) HV.out.2)).mono ?_
            rintro _ w2 ⟨rfl, hb⟩
            have HB2 : Hid (RowKit.Below wo.heap.size wo w2) := ((HBr.out.alloc HBr.out.size _).alloc (by have := HBr.out.size; simp; omega) _).trans (hb.mono (by have := HBr.out.size; simp; omega))
            clear hb x0 x1 x2 x3 x4
            go_wp2
            go_ret2
            rw [E.out]
            exact OutP.bad (HB.out.trans (HB2.out.mono HB.out.size))
          | true =>
            have HD3 : Hid (∀ (j : Nat) (h : j < R.length), j < k + 1 → wl R[j] = true) := fun j h hj => by
              by_cases e : j = k
              · subst e; exact HC.out.symm
              · exact HD2.out j h (by omega)
            go_wp2_with fail
            refine (rvalid_b [⟨0, X.vn, X.vd, X.sn, X.sd⟩] true HV.out.1 (some ⟨wr.heap.size + 1, 0, none⟩) (wr.heap.size + 1) 0 1 1 _ (slp_at (wr.alloc (.cells #[.int .i64 0, .int .i64 X.vn, .int .i64 X.vd, .int .i64 X.sn, .int .i64 X.sd] 51)) (wr.heap.size + 1) (by simp) [⟨0, X.vn, X.vd, X.sn, X.sd⟩] _ _ 1 rfl rfl (by omega) HV.out.2)).mono ?_
            rintro _ w2 ⟨rfl, hb⟩
            have HB2 : Hid (RowKit.Below wo.heap.size wo w2) := ((HBr.out.alloc HBr.out.size _).alloc (by have := HBr.out.size; simp; omega) _).trans (hb.mono (by have := HBr.out.size; simp; omega))
            clear hb x0 x1 x2 x3 x4
            go_wp2
            go_roundg (m - (k + 1))
            case measure => omega
            case rel => exact ⟨k + 1, by go_num, by omega, by omega, HB2.out, HD3.out⟩
        · have hltz : ¬ (k : Int) < (m : Int) := by omega
          have ha : R.all wl = true := List.all_eq_true.2 fun x hx => by
            obtain ⟨j, hj, rfl⟩ := List.getElem_of_mem hx
            exact HD2.out j hj (by have := HM.out; omega)
          by_cases h64 : 64 < m
          · have hz : (64 : Int) < (m : Int) := by omega
            have E : Hid (chR R = ([], 2)) := by show _ = _; unfold chR; rw [ha, if_pos rfl, if_neg (by have := HM.out; omega)]
            clear ha
            go_wp2
            go_ret2
            rw [E.out]
            exact OutP.bad HBw.out
          · have hz : ¬ (64 : Int) < (m : Int) := by omega
            have E : Hid (chR R = (R, 0)) := by show _ = _; unfold chR; rw [ha, if_pos rfl, if_pos (by have := HM.out; omega)]
            clear ha
            go_wp2
            go_ret2
            rw [E.out]
            exact ⟨p2, b2, 0, m, cp, rfl, HS2.out.below HBr.out, HBw.out⟩
end Go.Proofs.Ytmjdolgcgbiajaa
