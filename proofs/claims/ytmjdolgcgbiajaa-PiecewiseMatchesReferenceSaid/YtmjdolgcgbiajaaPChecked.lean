/-
  Contracts of checked and result.
-/
import Derived.Test.YtmjdolgcgbiajaaPCompact
namespace Go.Proofs.Ytmjdolgcgbiajaa
open Go.RowKit Pw

def chR (l : List RP) : List RP × Int := if l.all wl then (if l.length ≤ 64 then (l, 0) else ([], 2)) else ([], 3)
theorem chR_map (l : List AP) : chR (l.map rpO) = ((chk l).1.map toRP, (chk l).2) := by
  have e : (l.map rpO).all wl = l.all Lim := by
    rw [List.all_map]
    congr 1
    funext a
    exact wl_rpO a
  unfold chR chk
  rw [e, List.length_map]
  split
  · rename_i h
    split
    · rw [List.map_congr_left fun a ha => rpO_ok (List.all_eq_true.1 h a ha)]
    · rfl
  · rfl
theorem chR_no {l : List RP} {k : Nat} (hk : k < l.length) (h : wl l[k] = false) : chR l = ([], 3) := by
  unfold chR
  rw [if_neg]
  intro x
  rw [List.all_eq_true.1 x _ (List.getElem_mem hk)] at h
  cases h
/-- A slice of pieces and an error are returned, in a world of which something holds. -/
def OutP (R : World → Prop) (l : List RP) (er : Int) (e : Ending) (w' : World) : Prop :=
  ∃ p b off len cap, e = .returned (.tuple #[.slice p len cap, .int .i64 er]) ∧ SlP w' p b off len l ∧ R w'
theorem OutP.bad {R : World → Prop} {w' : World} {er : Int} (hB : R w') : OutP R [] er (.returned (.tuple #[.slice none 0 0, .int .i64 er])) w' := ⟨none, 0, 0, 0, 0, rfl, SlP.nil _ _, hB⟩

set_option maxRecDepth 100000 in
set_option maxHeartbeats 1000000 in
theorem checked_any (l : List RP) (p : Option Addr) (b off cap len : Nat) (w : World) (hS : SlP w p b off len l) : Calls Try.prog 51 #[.slice p len cap] w fun e w' => OutP (RowKit.Below w.heap.size w) (chR l).1 (chR l).2 e w' := by
  have HS := Lib.hid hS
  have hm := hS.max
  have HL := Lib.hid hS.ln
  clear hS
  go_enter Try.func51, Try.ntmps51
  go_wp2_with fail
  go_loopg [8] len (fun q s8 wr => ∃ k : Nat, s8 = .int .i64 k ∧ k ≤ len ∧ len - k ≤ q ∧ Hid (RowKit.Below w.heap.size w wr) ∧ Hid (∀ (j : Nat) (h : j < l.length), j < k → wl l[j] = true))
  case atStart => exact ⟨0, rfl, by omega, by omega, Below.refl _ _, fun j h hj => by omega⟩
  case round =>
    obtain ⟨k, rfl, hk, hkq, HB, HD⟩ := hrel
    by_cases hlt : k < len
    · have hltz : (k : Int) < (len : Int) := by omega
      have hkl : k < l.length := by rw [HL.out]; exact hlt
      have hp1 := HS.out.ptr (by omega)
      have HS1 := Lib.hid (HS.out.below HB.out)
      have hbr := HS1.out.lt (by omega)
      obtain ⟨x0, x1, x2, x3, x4⟩ := HS1.out.cells k hkl
      obtain ⟨c, hc⟩ : ∃ c, c = wl l[k] := ⟨_, rfl⟩
      have HC := Lib.hid hc
      have K := Lib.hid (fun w => within_any l[k] w (HS.out.in64 hkl))
      rw [← hc] at K
      unfold RP.V at K
      clear hc
      generalize l[k].f = a0 at *
      generalize l[k].vn = a1 at *
      generalize l[k].vd = a2 at *
      generalize l[k].sn = a3 at *
      generalize l[k].sd = a4 at *
      subst hp1
      cases c with
      | false =>
        have E := Lib.hid (chR_no hkl HC.out.symm)
        go_wp2_with fail
        refine (K.out _).mono ?_
        rintro _ w1 ⟨rfl, hb⟩
        have HB1 := Lib.hid (HB.out.trans (RowKit.Below.trans ((Below.refl _ wr).alloc HB.out.size _) (hb.mono (by have := HB.out.size; simp; omega))))
        clear hb
        go_wp2
        go_ret2
        rw [E.out]
        exact OutP.bad HB1.out
      | true =>
        have HD2 : Hid (∀ (j : Nat) (h : j < l.length), j < k + 1 → wl l[j] = true) := fun j h hj => by
          by_cases e : j = k
          · subst e; exact HC.out.symm
          · exact HD.out j h (by omega)
        go_wp2_with fail
        refine (K.out _).mono ?_
        rintro _ w1 ⟨rfl, hb⟩
        have HB1 := Lib.hid (HB.out.trans (RowKit.Below.trans ((Below.refl _ wr).alloc HB.out.size _) (hb.mono (by have := HB.out.size; simp; omega))))
        clear hb
        go_wp2
        go_roundg (len - (k + 1))
        case measure => omega
        case rel => exact ⟨k + 1, by go_num, by omega, by omega, HB1.out, HD2.out⟩
    · obtain rfl : k = len := by omega
      have hltz : ¬ (k : Int) < (k : Int) := by omega
      have ha : l.all wl = true := List.all_eq_true.2 fun x hx => by
        obtain ⟨j, hj, rfl⟩ := List.getElem_of_mem hx
        exact HD.out j hj (by have := HL.out; omega)
      by_cases h64 : 64 < k
      · have hz : (64 : Int) < (k : Int) := by omega
        have E : Hid (chR l = ([], 2)) := by show _ = _; unfold chR; rw [ha, if_pos rfl, if_neg (by have := HL.out; omega)]
        clear ha
        go_wp2
        go_ret2
        rw [E.out]
        exact OutP.bad HB.out
      · have hz : ¬ (64 : Int) < (k : Int) := by omega
        have E : Hid (chR l = (l, 0)) := by show _ = _; unfold chR; rw [ha, if_pos rfl, if_pos (by have := HL.out; omega)]
        clear ha
        go_wp2
        go_ret2
        rw [E.out]
        exact ⟨p, b, off, k, cap, rfl, HS.out.below HB.out, HB.out⟩

/-- What result gives of sections. -/
def resR (L : List SP) : List RP × Int := chR ((redS L).map fun s => rpO s.A)
theorem rpO_in {s : SP} (h : s.Ok) : (rpO s.A).In := by
  have bN : ∀ x : Rat, In64 (mkN x) := fun x => by
    unfold mkN In64
    split
    · rename_i h; have := okR_val.1 h; have h1 := this.1; have h2 := this.2.1; omega
    · omega
  have bD : ∀ x : Rat, In64 (mkD x) := fun x => by
    unfold mkD In64
    split
    · rename_i h; have := okR_val.1 h; have h1 := this.2.2.1; have h2 := this.2.2.2.1; omega
    · omega
  exact ⟨by have h1 := h.1; have h2 := h.2.1; unfold rpO SP.A In64; simp only; omega, bN _, bD _, bN _, bD _⟩

set_option maxRecDepth 100000 in
set_option maxHeartbeats 2000000 in
theorem result_any (L : List SP) (g n cap base : Nat) (w : World) (hO : OwnS w base (.slice (some ⟨g, 0, none⟩) n cap) L) (hn : L.length = n) (hok : ∀ s, s ∈ L → s.Ok) (hlen : n ≤ 1000000) :
    Calls Try.prog 42 #[.slice (some ⟨g, 0, none⟩) n cap] w fun e w' => OutP (But g w) (resR L).1 (resR L).2 e w' := by
  have K := Lib.hid (reduced_any L g n cap base w hO hn hok)
  have KP := Lib.hid (fun (k : Nat) (h : k < (redS L).length) (w : World) => piece_any (redS L)[k] w (hok _ (redS_sub (List.getElem_mem h))))
  have HIN : Hid (∀ s, s ∈ (redS L).map (fun s => rpO s.A) → s.In) := fun s hs => by
    obtain ⟨t, ht, rfl⟩ := List.mem_map.1 hs
    exact rpO_in (hok t (redS_sub ht))
  have hRl : (redS L).length ≤ n := by
    have : ∀ (l : List SP) (a : SP), (rfS a l).length ≤ l.length := by
      intro l
      induction l with
      | nil => intro a; exact Nat.le_refl _
      | cons b t ih => intro a; rw [rfS]; have := ih b; split <;> simp <;> omega
    rw [← hn]
    cases L with
    | nil => exact Nat.le_refl _
    | cons a t => have := this t a; simp [redS]; omega
  unfold SP.V RP.V at KP
  unfold resR
  clear hO hn hok
  generalize redS L = R at *
  clear L
  go_enter Try.func42, Try.ntmps42
  go_wp2_with fail
  refine K.out.mono ?_
  rintro _ w1 ⟨m, rfl, hs, hb⟩
  have HS := Lib.hid hs
  have HM := Lib.hid hs.ln
  have hm : m ≤ 1000000 := by have := hs.ln; omega
  have HB := Lib.hid hb
  clear hs hb hRl
  go_wp2_with fail
  go_loopg [4, 10] m (fun q s4 s10 wr => ∃ k : Nat, s10 = .int .i64 k ∧ k ≤ m ∧ m - k ≤ q ∧ Hid (RowKit.Below w1.heap.size w1 wr) ∧ Hid (OwnP wr w1.heap.size s4 ((R.take k).map fun s => rpO s.A)))
  case atStart => exact ⟨0, rfl, by omega, by omega, Below.refl _ _, OwnP.empty _ _⟩
  case round =>
    obtain ⟨k, rfl, hk, hkq, HBr, HO⟩ := hrel
    by_cases hlt : k < m
    · have hltz : (k : Int) < (m : Int) := by omega
      have hkl : k < R.length := by rw [HM.out]; exact hlt
      have HS1 := Lib.hid (HS.out.below HBr.out)
      have hbr := HS1.out.lt (by omega)
      obtain ⟨x0, x1, x2, x3⟩ := HS1.out.at hkl
      have KK := Lib.hid (KP.out k hkl)
      have HT := Lib.hid (show (R.take (k + 1)).map (fun s => rpO s.A) = (R.take k).map (fun s => rpO s.A) ++ [rpO R[k].A] from by
        rw [List.take_succ_eq_append_getElem hkl, List.map_append]; rfl)
      have HTL := Lib.hid (show ((R.take k).map fun s => rpO s.A).length ≤ 1000000 from by rw [List.length_map, List.length_take]; omega)
      generalize rpO R[k].A = X at *
      generalize R[k].f = a0 at *
      generalize R[k].b = a1 at *
      generalize R[k].r = a2 at *
      generalize R[k].d = a3 at *
      go_wp2_with fail
      refine (KK.out _).mono ?_
      rintro _ w2 ⟨rfl, hb⟩
      have hb' : RowKit.Below wr.heap.size wr w2 := RowKit.Below.trans ((Below.refl _ wr).alloc (Nat.le_refl _) _) (hb.mono (by simp))
      have HO2 := Lib.hid (HO.out.below hb')
      have HB2 := Lib.hid (HBr.out.trans (hb'.mono HBr.out.size))
      clear hb hb' x0 x1 x2 x3
      go_wp2_with (first | (at_builtin; refine list_appP rfl _ _ rfl w1.heap.size _ _ rfl (HO2.out.alloc _) w2.heap.size 1 X rfl (OneP.new w2 X _) (by have := HTL.out; omega) (by have := HB2.out.size; simp; omega) ?_; intro v5 W5 own5 grow5) | fail)
      have HB5 : Hid (RowKit.Below w1.heap.size w1 W5) := (HB2.out.alloc HB2.out.size _).grown grow5 (by have := HB2.out.size; simp; omega) HO2.out.block
      have HO5 : Hid (OwnP W5 w1.heap.size v5 ((R.take (k + 1)).map fun s => rpO s.A)) := by show OwnP _ _ _ _; rw [HT.out]; exact own5
      clear own5 grow5
      go_wp2
      go_roundg (m - (k + 1))
      case measure => omega
      case rel => exact ⟨k + 1, by go_num, by omega, by omega, HB5.out, HO5.out⟩
    · obtain rfl : k = m := by omega
      have hltz : ¬ (k : Int) < (k : Int) := by omega
      have eR : R.take k = R := List.take_of_length_le (by have := HM.out; omega)
      rw [eR] at HO
      clear eR
      obtain ⟨p, b, cp, hv, hS⟩ := HO.out.reads (by rw [List.length_map, HM.out]; omega) HIN.out
      have hln : (R.map fun s => rpO s.A).length = k := by rw [List.length_map]; exact HM.out
      rw [hln] at hv hS
      subst hv
      have KC := Lib.hid (checked_any _ p b 0 cp k wr hS)
      have HBg := Lib.hid (HB.out.more HBr.out)
      clear hS hln
      go_wp2_with fail
      refine KC.out.mono ?_
      rintro _ w3 ⟨p3, b3, off3, len3, cap3, rfl, hs3, hb3⟩
      have HS3 := Lib.hid hs3
      have HB3 := Lib.hid (HBg.out.more hb3)
      clear hs3 hb3
      go_wp2
      go_ret2
      exact ⟨p3, b3, off3, len3, cap3, rfl, HS3.out, HB3.out⟩
end Go.Proofs.Ytmjdolgcgbiajaa
