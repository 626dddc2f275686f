/-
  The reference's Set: the list of the runs of marked days.
-/
import Derived.Test.YtomcngnfdflkkaaSMarks
namespace Go.Proofs.Ytomcngnfdflkkaa
open Go.RowKit Spn Go.Sort

theorem add_len (L : List (Int × Int)) (d : Int) : (add L d).length ≤ L.length + 1 := by
  rcases List.eq_nil_or_concat L with rfl | ⟨L', s, rfl⟩
  · rw [add_nil]; simp
  · simp only [List.concat_eq_append]
    by_cases h : s.2 = d
    · rw [add_on _ _ _ h]; simp
    · rw [add_new _ _ (fun t ht => by rw [List.getLast?_concat] at ht; cases ht; exact h)]; simp
theorem runsTo_len (K : Int → Bool) : ∀ n, (runsTo K n).length ≤ n
  | 0 => by simp [runsTo]
  | n + 1 => by
    have := runsTo_len K n
    rw [runsTo]
    split
    · have := add_len (runsTo K n) n; omega
    · omega
theorem Own.cases {w : World} {base : Nat} {v : Value} {l : List (Int × Int)} (h : Own w base v l) : (v = .slice none 0 0 ∧ l = []) ∨ ∃ g cap, v = .slice (some ⟨g, 0, none⟩) l.length cap ∧ base ≤ g := by
  rcases h.2 with ⟨h1, h2⟩ | ⟨g, cap, cur, hv, hg, _⟩
  · exact .inl ⟨h1, List.length_eq_zero_iff.1 h2⟩
  · exact .inr ⟨g, cap, hv, hg⟩
theorem fl_set : ∀ (L : List (Int × Int)) (s : Int × Int) (y : Int), (fl (L ++ [s])).set (L.length * 2 + 1) (vi y) = fl (L ++ [(s.1, y)])
  | [], s, y => rfl
  | t :: L, s, y => by
    have := fl_set L s y
    rw [List.cons_append, List.cons_append, fl, fl, ← this, List.length_cons, show (L.length + 1) * 2 + 1 = L.length * 2 + 1 + 1 + 1 by omega]
    rfl
/-- The end of the last stretch: what it reads, and a store into it. -/
theorem Own.last {w : World} {base g cap n : Nat} {L : List (Int × Int)} {s : Int × Int} (h : Own w base (.slice (some ⟨g, 0, none⟩) n cap) (L ++ [s])) (hn : n = L.length + 1) :
    w.cell? ⟨g, (n - 1) * 2 + 1, none⟩ = some (.int .i64 s.2) ∧ w.frozen? ⟨g, (n - 1) * 2 + 1, none⟩ = false ∧ g < w.heap.size ∧
      ∀ y, Own (w.setCell ⟨g, (n - 1) * 2 + 1, none⟩ (.int .i64 y)) base (.slice (some ⟨g, 0, none⟩) n cap) (L ++ [(s.1, y)]) := by
  have hl : (L ++ [s]).length = n := by simp [hn]
  have h' : w.ownsRow base 37 2 (.slice (some ⟨g, 0, none⟩) n cap) n (fl (L ++ [s])) := by have := h; unfold Own at this; rw [hl] at this; exact this
  have e : n - 1 = L.length := by omega
  rw [e]
  have c : w.cell? ⟨g, L.length * 2 + 1, none⟩ = some (.int .i64 s.2) := by
    rw [h'.cellAt _ (by omega)]
    have := (fl_at (L ++ [s]) L.length (by simp)).2
    rw [this]
    simp [vi]
  refine ⟨c, h'.frozenAt _, World.block_lt_of_cell? _ _ c, fun y => ?_⟩
  have st := (h'.stored (L.length * 2 + 1) (vi y)).1
  rw [fl_set] at st
  have hl2 : (L ++ [(s.1, y)]).length = n := by simp [hn]
  unfold Own
  rw [hl2]
  exact st

set_option maxHeartbeats 2000000 in
set_option maxRecDepth 100000 in
theorem set_any (K : Int → Bool) (g n : Nat) (hn : n = 36525) (w : World) (hM : Mk w g K) (hg : g < w.heap.size) :
    Calls Try.prog 32 #[.slice (some ⟨g, 0, none⟩) n n] w fun e w' => Out2 w (swV (runs K)) (swE (runs K)) e w' := by
  have HM := Lib.hid hM
  have HG := Lib.hid hg
  have HN := Lib.hid hn
  have hn1 : n ≤ 36525 := by omega
  clear hM hg hn
  obtain ⟨B, hB⟩ : ∃ B, B = w.heap.size := ⟨_, rfl⟩
  have HBz := Lib.hid hB
  clear hB
  go_enter Try.func32, Try.ntmps32
  go_wp2_with fail
  go_loopg [4, 5] n (fun gg s4 s5 wr => ∃ d : Nat, s5 = .int .i64 d ∧ d ≤ n ∧ n - d ≤ gg ∧ Hid (Own wr B s4 (runsTo K d)) ∧ Hid (RowKit.Below w.heap.size w wr))
  case atStart => exact ⟨0, rfl, by omega, by omega, Own.empty _ _, Below.refl _ _⟩
  case round =>
    obtain ⟨d, rfl, hd, hdg, HO, HB⟩ := hrel
    by_cases hlt : d < n
    · have hltz : (d : Int) < (n : Int) := by omega
      have hdn : d < 36525 := by omega
      have hcell := (HB.out.cell (p := ⟨g, d, none⟩) HG.out).trans (HM.out d hdn).1
      have hLl : (runsTo K d).length ≤ d := runsTo_len K d
      obtain ⟨c, hc⟩ : ∃ c, c = K d := ⟨_, rfl⟩
      rw [← hc] at hcell
      cases c with
      | false =>
        have hr : runsTo K (d + 1) = runsTo K d := by rw [runsTo, ← hc]; rfl
        have HO2 : Hid (Own wr B u4 (runsTo K (d + 1))) := by show Own _ _ _ _; rw [hr]; exact HO.out
        clear hc hr hLl
        go_wp2
        go_roundg (n - (d + 1))
        case measure => omega
        case rel => exact ⟨d + 1, by go_num, by omega, by omega, HO2, HB.out⟩
      | true =>
        have HR : Hid (runsTo K (d + 1) = add (runsTo K d) d) := by show _ = _; rw [runsTo, ← hc]; rfl
        clear hc
        obtain ⟨L, hL⟩ : ∃ L, L = runsTo K d := ⟨_, rfl⟩
        rw [← hL] at HO HR hLl
        clear hL
        have new : (∀ s, L.getLast? = some s → s.2 ≠ d) → Hid (runsTo K (d + 1) = L ++ [((d : Int), (d : Int) + 1)]) := fun h => by show _ = _; rw [HR.out, add_new L d h]
        rcases HO.out.cases with ⟨rfl, rfl⟩ | ⟨gb, cp, rfl, hgb⟩
        · have HN2 := new (fun s h => by cases h)
          clear new
          go_wp2_with (first | (at_builtin; refine list_app rfl _ _ rfl B (.slice none 0 0) [] rfl (HO.out.alloc _) ⟨_, 0, none⟩ 1 1 [((d : Int), (d : Int) + 1)] rfl rfl (From.new wr (d : Int) ((d : Int) + 1) _) (by simp) (by have := HB.out.size; have := HBz.out; simp; omega) ?_; intro v5 W5 own5 grow5) | fail)
          have HO5 : Hid (Own W5 B v5 (runsTo K (d + 1))) := by show Own _ _ _ _; rw [HN2.out]; exact own5
          have HB5 : Hid (RowKit.Below w.heap.size w W5) := (HB.out.alloc HB.out.size _).grown grow5 (by have := HB.out.size; simp; omega) (fun k hk => by cases hk)
          clear own5 grow5
          go_wp2
          go_roundg (n - (d + 1))
          case measure => omega
          case rel => exact ⟨d + 1, by go_num, by omega, by omega, HO5, HB5⟩
        · rcases List.eq_nil_or_concat L with rfl | ⟨L', s, rfl⟩
          · have HN2 := new (fun s h => by cases h)
            clear new
            go_wp2_with (first | (at_builtin; refine list_app rfl _ _ rfl B (.slice (some ⟨gb, 0, none⟩) 0 cp) [] rfl (HO.out.alloc _) ⟨_, 0, none⟩ 1 1 [((d : Int), (d : Int) + 1)] rfl rfl (From.new wr (d : Int) ((d : Int) + 1) _) (by simp) (by have := HB.out.size; have := HBz.out; simp; omega) ?_; intro v5 W5 own5 grow5) | fail)
            have HO5 : Hid (Own W5 B v5 (runsTo K (d + 1))) := by show Own _ _ _ _; rw [HN2.out]; exact own5
            have HB5 : Hid (RowKit.Below w.heap.size w W5) := (HB.out.alloc HB.out.size _).grown grow5 (by have := HB.out.size; simp; omega) (fun k hk => by have := HO.out.block k hk; have := HBz.out; omega)
            clear own5 grow5
            go_wp2
            go_roundg (n - (d + 1))
            case measure => omega
            case rel => exact ⟨d + 1, by go_num, by omega, by omega, HO5, HB5⟩
          · simp only [List.concat_eq_append] at *
            obtain ⟨m, hm⟩ : ∃ m, m = (L' ++ [s]).length := ⟨_, rfl⟩
            rw [← hm] at HO hLl ⊢
            have hm1 : 0 < m := by rw [hm]; simp
            have hmz : (0 : Int) < (m : Int) := by omega
            have hmz2 : (m : Int) - 1 < (m : Int) := by omega
            have hmz3 : (0 : Int) ≤ (m : Int) - 1 := by omega
            have hml : m = L'.length + 1 := by rw [hm]; simp
            obtain ⟨e1, e2, e3, e4⟩ := HO.out.last hml
            have HS := Lib.hid e4
            have HE3 := Lib.hid e3
            obtain ⟨y, hy⟩ : ∃ y, y = s.2 := ⟨_, rfl⟩
            rw [← hy] at e1
            have HM := Lib.hid hm
            by_cases hyd : y = (d : Int)
            · have HN2 : Hid (runsTo K (d + 1) = L' ++ [(s.1, (d : Int) + 1)]) := by show _ = _; rw [HR.out, add_on L' s d (by rw [← hy]; exact hyd)]
              have hb : (y == (d : Int)) = true := by simpa using hyd
              have HO5 : Hid (Own (wr.setCell ⟨gb, (m - 1) * 2 + 1, none⟩ (.int .i64 ((d : Int) + 1))) B (.slice (some ⟨gb, 0, none⟩) m cp) (runsTo K (d + 1))) := by show Own _ _ _ _; rw [HN2.out]; exact HS.out _
              have HB5 : Hid (RowKit.Below w.heap.size w (wr.setCell ⟨gb, (m - 1) * 2 + 1, none⟩ (.int .i64 ((d : Int) + 1)))) := HB.out.setCell (by show w.heap.size ≤ gb; have := HBz.out; omega) _
              clear new hm hml e3 e4 hy hyd
              go_wp2
              go_roundg (n - (d + 1))
              case measure => omega
              case rel => exact ⟨d + 1, by go_num, by omega, by omega, HO5, HB5⟩
            · have HN2 := new (fun t h => by rw [List.getLast?_concat] at h; cases h; rw [← hy]; exact hyd)
              have hb : (y == (d : Int)) = false := by simpa using hyd
              have HML : Hid (((L' ++ [s]).length + 1) * 16 ≤ 140737488355328) := by show _ ≤ _; rw [← hm]; omega
              have HO1 : Hid (∀ o, Own (wr.alloc o) B (.slice (some ⟨gb, 0, none⟩) m cp) (L' ++ [s])) := fun o => HO.out.alloc o
              clear new hm hml e3 e4 hy hyd
              go_wp2_with (first | (at_builtin; refine list_app rfl _ _ rfl B (.slice (some ⟨gb, 0, none⟩) m cp) (L' ++ [s]) rfl (HO1.out _) ⟨_, 0, none⟩ 1 1 [((d : Int), (d : Int) + 1)] rfl rfl (From.new wr (d : Int) ((d : Int) + 1) _) HML.out (by have := HB.out.size; have := HBz.out; simp; omega) ?_; intro v5 W5 own5 grow5) | fail)
              have HO5 : Hid (Own W5 B v5 (runsTo K (d + 1))) := by show Own _ _ _ _; rw [HN2.out]; exact own5
              have HB5 : Hid (RowKit.Below w.heap.size w W5) := (HB.out.alloc HB.out.size _).grown grow5 (by have := HB.out.size; simp; omega) (fun k hk => by cases hk; show w.heap.size ≤ gb; have := HBz.out; omega)
              clear own5 grow5
              go_wp2
              go_roundg (n - (d + 1))
              case measure => omega
              case rel => exact ⟨d + 1, by go_num, by omega, by omega, HO5, HB5⟩
    · have hltz : ¬ (d : Int) < (n : Int) := by omega
      have hde : d = 36525 := by have := HN.out; omega
      have hR : Own wr B u4 (runs K) := by have := HO.out; rw [hde] at this; exact this
      have hRl : (runs K).length ≤ 36525 := runsTo_len K 36525
      obtain ⟨R, hRe⟩ : ∃ R, R = runs K := ⟨_, rfl⟩
      have hRI : ∀ s, s ∈ R → In64 s.1 ∧ In64 s.2 := fun s hs => by
        rw [hRe] at hs
        have h1 := runs_in _ s hs
        have h2 := (runs_nf _).1 s hs
        unfold In64
        omega
      have HRE := Lib.hid hRe
      rw [← hRe] at hR hRl
      obtain ⟨pp, gb, cp, rfl, hsl⟩ := hR.reads (by omega) hRI
      have HSL := Lib.hid hsl
      clear hsl hR hRI HO hde hRe
      by_cases h1 : 1000 < R.length
      · have h1z : (1000 : Int) < (R.length : Int) := by omega
        have HR : Hid (Out2 w (swV (runs K)) (swE (runs K)) (.returned (.tuple #[.slice none 0 0, .int .i64 2])) wr) := by
          show Out2 _ _ _ _ _
          rw [← HRE.out]
          unfold swV swE
          rw [if_neg (by omega), if_neg (by omega)]
          exact ⟨none, 0, 0, 0, rfl, Sl.nil _ _, HB.out⟩
        go_wp2
        go_ret2
        exact HR.out
      · have h1z : ¬ (1000 : Int) < (R.length : Int) := by omega
        have HR : Hid (Out2 w (swV (runs K)) (swE (runs K)) (.returned (.tuple #[.slice pp R.length cp, .int .i64 0])) wr) := by
          show Out2 _ _ _ _ _
          rw [← HRE.out]
          unfold swV swE
          rw [if_pos (by omega), if_pos (by omega)]
          exact ⟨pp, gb, R.length, cp, rfl, HSL.out, HB.out⟩
        go_wp2
        go_ret2
        exact HR.out
end Go.Proofs.Ytomcngnfdflkkaa
