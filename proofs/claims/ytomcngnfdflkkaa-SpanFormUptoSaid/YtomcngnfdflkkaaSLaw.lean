/-
  What the laws of layer 4 share: how many stretches a result has, its days, and contracts of has and done.
-/
import Derived.Test.YtomcngnfdflkkaaSHead
namespace Go.Proofs.Ytomcngnfdflkkaa
open Go.RowKit Spn Go.Sort

theorem len_fst {kf : Bool → Bool → Bool} (hk : kf false false = false) (h : ∀ x y x' y', kf x y = true → kf x' y' = false → (x = true ∧ x' = false) ∨ (y = true ∧ y' = false)) {a b : List (Int × Int)} (ha : ∀ s, s ∈ a → st s = true) (hb : ∀ s, s ∈ b → st s = true) :
    (runs fun d => kf (cov a d) (cov b d)).length ≤ a.length + b.length := by
  have := runs_len hk ha hb (a.map Prod.fst ++ b.map Prod.fst) fun d h1 h2 => by
    rcases h _ _ _ _ h1 h2 with ⟨x, y⟩ | ⟨x, y⟩
    · exact List.mem_append_left _ (cov_begin x y)
    · exact List.mem_append_right _ (cov_begin x y)
  simpa using this
theorem len_snd {kf : Bool → Bool → Bool} (hk : kf false false = false) (h : ∀ x y x' y', kf x y = true → kf x' y' = false → (x = true ∧ x' = false) ∨ (y = false ∧ y' = true)) {a b : List (Int × Int)} (ha : ∀ s, s ∈ a → st s = true) (hb : ∀ s, s ∈ b → st s = true) :
    (runs fun d => kf (cov a d) (cov b d)).length ≤ a.length + b.length := by
  have := runs_len hk ha hb (a.map Prod.fst ++ b.map Prod.snd) fun d h1 h2 => by
    rcases h _ _ _ _ h1 h2 with ⟨x, y⟩ | ⟨x, y⟩
    · exact List.mem_append_left _ (cov_begin x y)
    · exact List.mem_append_right _ (cov_end x y)
  simpa using this

/-- The three operations. -/
structure Op3 (kf : Bool → Bool → Bool) : Prop where
  ff : kf false false = false
  len : ∀ {a b : List (Int × Int)}, (∀ s, s ∈ a → st s = true) → (∀ s, s ∈ b → st s = true) → (runs fun d => kf (cov a d) (cov b d)).length ≤ a.length + b.length
theorem opU : Op3 kU := ⟨rfl, len_fst rfl (by decide)⟩
theorem opM : Op3 kM := ⟨rfl, len_fst rfl (by decide)⟩
theorem opW : Op3 kW := ⟨rfl, len_snd rfl (by decide)⟩

/-- What an operation gives where nothing is refused. -/
structure Good (kf : Bool → Bool → Bool) (a b R : List (Int × Int)) : Prop where
  val : opV kf a b = R
  err : opE kf a b = 0
  vl : Vl R
  cov : ∀ d, Spn.cov R d = kf (Spn.cov a d) (Spn.cov b d)
  len : R.length ≤ a.length + b.length
theorem good_of {kf : Bool → Bool → Bool} (hk : Op3 kf) {a b : List (Int × Int)} (ha : Vl a) (hb : Vl b) (hl : (runs fun d => kf (cov a d) (cov b d)).length ≤ 1000) : Good kf a b (runs fun d => kf (cov a d) (cov b d)) := by
  have hv := vl_runs hl
  have hc : ∀ d, Spn.cov (runs fun d => kf (Spn.cov a d) (Spn.cov b d)) d = kf (Spn.cov a d) (Spn.cov b d) := runs_cov' (kf_in hk.ff ha.2.1 hb.2.1)
  obtain ⟨h1, h2⟩ := opV_is hk.ff (vl_iff.2 ha) (vl_iff.2 hb) hv hc
  exact ⟨h1, h2, hv, hc, hk.len ha.2.1 hb.2.1⟩
theorem good {kf : Bool → Bool → Bool} (hk : Op3 kf) {a b : List (Int × Int)} (ha : Vl a) (hb : Vl b) (hl : a.length + b.length ≤ 1000) : ∃ R, Good kf a b R := ⟨_, good_of hk ha hb (Nat.le_trans (hk.len ha.2.1 hb.2.1) hl)⟩
/-- Two sets with the same days are the same. -/
theorem same_of {l m : List (Int × Int)} (hl : Vl l) (hm : Vl m) (h : ∀ d, Spn.cov l d = Spn.cov m d) : decide (l = m) = true := decide_eq_true (nf_uniq hl.nf hm.nf h)

theorem op_bad {kf : Bool → Bool → Bool} {a b : List (Int × Int)} (ha : Vl a) (hb : Vl b) (hl : ¬ (runs fun d => kf (cov a d) (cov b d)).length ≤ 1000) : opE kf a b = 2 := by
  unfold opE swE
  rw [vl_iff.2 ha, vl_iff.2 hb, if_neg hl]; rfl

set_option maxHeartbeats 1000000 in
theorem has_any (l : List (Int × Int)) (d : Int) (p : Option Addr) (b off cap len : Nat) (w : World) (hS : Sl w p b off len l) :
    Calls Try.prog 25 #[.slice p len cap, .int .i64 d] w fun e w' => e = .returned (.bool (hsV l d)) ∧ RowKit.Below w.heap.size w w' := by
  have K := Lib.hid (Has_any l d p b off cap len w hS)
  clear hS
  cases hv : vl l with
  | false =>
    obtain ⟨h1, h2⟩ := hs_bad d hv
    rw [h1, h2] at K
    rw [h1]
    clear hv h1 h2
    go_enter Try.func25, Try.ntmps25
    go_wp2_with fail
    refine K.out.mono ?_
    rintro _ w1 ⟨rfl, hb⟩
    have HB := Lib.hid hb
    clear hb
    go_wp2
    go_ret
    exact ⟨rfl, HB.out⟩
  | true =>
    obtain ⟨h1, h2⟩ := hs_ok d hv
    rw [h1, h2] at K
    rw [h1]
    clear hv h1 h2
    cases hc : cov l d with
    | false =>
      rw [hc] at K
      clear hc
      go_enter Try.func25, Try.ntmps25
      go_wp2_with fail
      refine K.out.mono ?_
      rintro _ w1 ⟨rfl, hb⟩
      have HB := Lib.hid hb
      clear hb
      go_wp2
      go_ret
      exact ⟨rfl, HB.out⟩
    | true =>
      rw [hc] at K
      clear hc
      go_enter Try.func25, Try.ntmps25
      go_wp2_with fail
      refine K.out.mono ?_
      rintro _ w1 ⟨rfl, hb⟩
      have HB := Lib.hid hb
      clear hb
      go_wp2
      go_ret
      exact ⟨rfl, HB.out⟩

/-- .. and a truth value. -/
def Out3 (w : World) (l : List (Int × Int)) (c : Bool) (e : Ending) (w' : World) : Prop := ∃ p b len cap, e = .returned (.tuple #[.slice p len cap, .bool c]) ∧ Sl w' p b 0 len l ∧ RowKit.Below w.heap.size w w'
theorem out3_is {w w' : World} {l : List (Int × Int)} {c : Bool} {e : Ending} (h : Out3 w l c e w') : ∃ p b cap, e = .returned (.tuple #[.slice p l.length cap, .bool c]) ∧ Sl w' p b 0 l.length l ∧ RowKit.Below w.heap.size w w' := by
  obtain ⟨p, b, len, cap, rfl, hs, hb⟩ := h
  have := hs.1
  subst this
  exact ⟨p, b, cap, rfl, hs, hb⟩

set_option maxHeartbeats 1000000 in
/-- done, where the operation succeeds. -/
theorem done_any (f : Nat) (eg : ∀ args w, (callFunc f args).run Try.prog w = .ok (.enter f args) w) (V : List (Int × Int)) (s s' : Value) (w : World) (K : Calls Try.prog f #[s, s'] w fun e w' => Out2 w V 0 e w') :
    Calls Try.prog 26 #[.bool true, .func (.func f) #[] #[], s, s'] w fun e w' => Out3 w V true e w' := by
  have K := Lib.hid K
  go_enter Try.func26, Try.ntmps26
  go_wp2_with fail
  refine K.out.mono ?_
  rintro e w1 ⟨pp, gb, ln, cp, rfl, hs, hb⟩
  have HR : Hid (Out3 w V true (.returned (.tuple #[.slice pp ln cp, .bool true])) w1) := ⟨pp, gb, ln, cp, rfl, hs, hb⟩
  clear hs hb
  go_wp2
  go_ret2
  exact HR.out
theorem fU : ∀ args w, (callFunc 15 args).run Try.prog w = .ok (.enter 15 args) w := enters_of Try.func15 (by kernel_rfl) rfl
theorem fM : ∀ args w, (callFunc 17 args).run Try.prog w = .ok (.enter 17 args) w := enters_of Try.func17 (by kernel_rfl) rfl
theorem fW : ∀ args w, (callFunc 19 args).run Try.prog w = .ok (.enter 19 args) w := enters_of Try.func19 (by kernel_rfl) rfl

/-- A slice that reads as a list, whatever block it lies in. -/
def Rd (w : World) (v : Value) (l : List (Int × Int)) : Prop := ∃ p b off cap, v = .slice p l.length cap ∧ Sl w p b off l.length l
theorem Rd.below {w w1 : World} {v : Value} {l : List (Int × Int)} (h : Rd w v l) (hB : RowKit.Below w.heap.size w w1) : Rd w1 v l := by
  obtain ⟨p, b, off, cap, rfl, hs⟩ := h; exact ⟨p, b, off, cap, rfl, hs.below hB⟩
theorem doneU {a b R : List (Int × Int)} (h : Good kU a b R) (s s' : Value) (w : World) (hS : Rd w s a) (hS' : Rd w s' b) :
    Calls Try.prog 26 #[.bool true, .func (.func 15) #[] #[], s, s'] w fun e w' => ∃ v, e = .returned (.tuple #[v, .bool true]) ∧ Rd w' v R ∧ RowKit.Below w.heap.size w w' := by
  obtain ⟨p, bl, off, cap, rfl, hs⟩ := hS
  obtain ⟨p', bl', off', cap', rfl, hs'⟩ := hS'
  have K := Union_any a b p p' bl off cap _ bl' off' cap' _ w hs hs'
  rw [h.val, h.err] at K
  refine (done_any _ fU R _ _ w K).mono fun e w' hO => ?_
  obtain ⟨q, g, c, rfl, hq, hb⟩ := out3_is hO
  exact ⟨_, rfl, ⟨q, g, 0, c, rfl, hq⟩, hb⟩
theorem doneM {a b R : List (Int × Int)} (h : Good kM a b R) (s s' : Value) (w : World) (hS : Rd w s a) (hS' : Rd w s' b) :
    Calls Try.prog 26 #[.bool true, .func (.func 17) #[] #[], s, s'] w fun e w' => ∃ v, e = .returned (.tuple #[v, .bool true]) ∧ Rd w' v R ∧ RowKit.Below w.heap.size w w' := by
  obtain ⟨p, bl, off, cap, rfl, hs⟩ := hS
  obtain ⟨p', bl', off', cap', rfl, hs'⟩ := hS'
  have K := Meet_any a b p p' bl off cap _ bl' off' cap' _ w hs hs'
  rw [h.val, h.err] at K
  refine (done_any _ fM R _ _ w K).mono fun e w' hO => ?_
  obtain ⟨q, g, c, rfl, hq, hb⟩ := out3_is hO
  exact ⟨_, rfl, ⟨q, g, 0, c, rfl, hq⟩, hb⟩
theorem doneW {a b R : List (Int × Int)} (h : Good kW a b R) (s s' : Value) (w : World) (hS : Rd w s a) (hS' : Rd w s' b) :
    Calls Try.prog 26 #[.bool true, .func (.func 19) #[] #[], s, s'] w fun e w' => ∃ v, e = .returned (.tuple #[v, .bool true]) ∧ Rd w' v R ∧ RowKit.Below w.heap.size w w' := by
  obtain ⟨p, bl, off, cap, rfl, hs⟩ := hS
  obtain ⟨p', bl', off', cap', rfl, hs'⟩ := hS'
  have K := Without_any a b p p' bl off cap _ bl' off' cap' _ w hs hs'
  rw [h.val, h.err] at K
  refine (done_any _ fW R _ _ w K).mono fun e w' hO => ?_
  obtain ⟨q, g, c, rfl, hq, hb⟩ := out3_is hO
  exact ⟨_, rfl, ⟨q, g, 0, c, rfl, hq⟩, hb⟩
theorem sameR {l m : List (Int × Int)} (c : Bool) (hc : decide (l = m) = c) (s s' : Value) (w : World) (hS : Rd w s l) (hS' : Rd w s' m) :
    Calls Try.prog 14 #[s, s'] w fun e w' => e = .returned (.bool c) ∧ RowKit.Below w.heap.size w w' := by
  obtain ⟨p, bl, off, cap, rfl, hs⟩ := hS
  obtain ⟨p', bl', off', cap', rfl, hs'⟩ := hS'
  exact same_b l m c hc p p' _ _ _ _ _ _ _ _ w hs hs'
theorem validR {l : List (Int × Int)} (c : Bool) (hc : vl l = c) (s : Value) (w : World) (hS : Rd w s l) :
    Calls Try.prog 10 #[s] w fun e w' => e = .returned (.bool c) ∧ RowKit.Below w.heap.size w w' := by
  obtain ⟨p, bl, off, cap, rfl, hs⟩ := hS
  exact valid_b l p bl off cap _ c hc w hs
theorem countR {l : List (Int × Int)} (hv : vl l = true) (s : Value) (w : World) (hS : Rd w s l) :
    Calls Try.prog 23 #[s] w fun e w' => e = .returned (.tuple #[.int .i64 (tot l), .int .i64 0]) ∧ RowKit.Below w.heap.size w w' := by
  obtain ⟨p, bl, off, cap, rfl, hs⟩ := hS
  have K := Count_any l p bl off cap _ w hs
  rw [(ct_ok hv).1, (ct_ok hv).2] at K
  exact K
theorem hasR {l : List (Int × Int)} (d : Int) (c : Bool) (hc : hsV l d = c) (s : Value) (w : World) (hS : Rd w s l) :
    Calls Try.prog 25 #[s, .int .i64 d] w fun e w' => e = .returned (.bool c) ∧ RowKit.Below w.heap.size w w' := by
  obtain ⟨p, bl, off, cap, rfl, hs⟩ := hS
  rw [← hc]; exact has_any l d p bl off cap _ w hs
theorem Sl.rd {w : World} {p : Option Addr} {b off len cap : Nat} {l : List (Int × Int)} (h : Sl w p b off len l) : Rd w (.slice p len cap) l := by
  have := h.1; subst this; exact ⟨p, b, off, cap, rfl, h⟩
end Go.Proofs.Ytomcngnfdflkkaa
