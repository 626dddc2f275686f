/-
  Mathematics of the laws: semicolons among the sources of tokens; what may be wrong with by-laws; by-laws of two texts.
  Mathematics of the laws: by-laws of two and three texts, with other blanks; expressions in brackets.
  Contract of the law's lexed: the sources of the tokens.
  Contract of the law's ends: how many semicolons a source has, and whether the last token is one.
-/
import Derived.Test.YtedbpjcglnkjmaaGreatDoorZO
import Derived.Test.YtedbpjcglnkjmaaGreatDoorZA
namespace Go.Proofs.YtedbpjcglnkjmaaGreatDoor
open Go.RowKit Lx Pa

theorem not_sc {p : List UInt8} (h : p.all dpt = true) : (p == sSc) = false := by
  cases hp : (p == sSc) with
  | false => rfl
  | true =>
    have e : p = sSc := by simpa using hp
    rw [e] at h
    exact absurd h (by decide)
theorem pc_sc {l : List UInt8} {t : Tok} {p : List UInt8} (h : Pc Vh l t p) : (p == sSc) = isT sSc t := by
  unfold isT
  by_cases hk : t.k = 2
  · rw [not_sc (h.num hk).1, decide_eq_false (by simp [hk]), Bool.false_and]
  · rw [h.txt hk, decide_eq_true hk, Bool.true_and]
theorem pcs_sc {l0 : List UInt8} : ∀ (ts : List Tok) (ps : List (List UInt8)) (i : Nat), Pcs Vh l0 i ts ps → ps.countP (· == sSc) = semis ts ∧ (ps.getLast?.map (· == sSc)) = ts.getLast?.map (isT sSc) := by
  intro ts
  induction ts with
  | nil =>
    intro ps i h
    cases ps with
    | nil => exact ⟨rfl, rfl⟩
    | cons p ps => cases h
  | cons t ts ih =>
    intro ps i h
    cases ps with
    | nil => cases h
    | cons p ps =>
      obtain ⟨-, h2, h3⟩ := h
      obtain ⟨i1, i2⟩ := ih ps _ h3
      have e := pc_sc h2
      have hl := pcs_len ts ps _ h3
      refine ⟨?_, ?_⟩
      · unfold semis at i1 ⊢
        rw [List.countP_cons, List.countP_cons, i1, e]
      · cases ts with
        | nil =>
          obtain rfl : ps = [] := List.length_eq_zero_iff.1 hl
          simp [e]
        | cons u us =>
          cases ps with
          | nil => cases hl
          | cons q qs => simpa [List.getLast?_cons_cons] using i2
/-- How many semicolons a source has, and whether the last token is one. -/
def endsN (l : List UInt8) : Int := match lex Vh l with
  | .ok ts => (semis ts : Nat)
  | .er _ _ => -1
def endsB (l : List UInt8) : Bool := match lex Vh l with
  | .ok ts => (ts.getLast?.map (isT sSc)).getD false
  | .er _ _ => false
theorem by_errs (l : List UInt8) : (byR l).es.length ≤ 20 ∧ (∀ p ∈ (byR l).es, p.1 ≠ 0 ∧ 0 ≤ ofsR l p.2 ∧ ofsR l p.2 ≤ l.length) ∧ (byR l).es.Pairwise (fun p q => ofsR l p.2 < ofsR l q.2) := by
  cases hx : lex Vh l with
  | er E a =>
    have h1 : byR l = ⟨[], [], [(E, 0)]⟩ := by unfold byR; rw [hx]
    have h2 : ofsR l = fun _ => (a : Int) := by unfold ofsR; rw [hx]
    have h3 := lex_er hx
    rw [h1, h2]
    refine ⟨by simp, fun p hp => ?_, by simp⟩
    rw [List.mem_singleton] at hp
    subst hp
    have h4 := h3.2.1
    exact ⟨h3.1, by show (0 : Int) ≤ a; omega, by show (a : Int) ≤ l.length; omega⟩
  | ok ts =>
    have h1 : byR l = parse M0 ts := by unfold byR; rw [hx]
    have h2 : ofsR l = offs ts l.length := by unfold ofsR; rw [hx]
    rw [h1, h2]
    have h3 := parse_inv (M := M0) ts
    refine ⟨h3.top, fun p hp => ?_, ?_⟩
    · refine ⟨?_, offs_in hx p.2⟩
      rcases h3.cod p hp with e | e | e <;> rw [e] <;> decide
    · refine h3.dec.imp_of_mem fun {p q} hp hq h => ?_
      exact offs_lt hx h (h3.bnd p hp)
theorem by_ok {l : List UInt8} (h : (byR l).es = []) : ∃ ts, lex Vh l = .ok ts ∧ byR l = parse M0 ts ∧ ofsR l = offs ts l.length ∧ ((byR l).ds.length + (byR l).rs.length : Nat) = endsN l := by
  cases hx : lex Vh l with
  | er E a =>
    have h1 : byR l = ⟨[], [], [(E, 0)]⟩ := by unfold byR; rw [hx]
    rw [h1] at h
    cases h
  | ok ts =>
    have h1 : byR l = parse M0 ts := by unfold byR; rw [hx]
    have h2 : ofsR l = offs ts l.length := by unfold ofsR; rw [hx]
    refine ⟨ts, rfl, h1, h2, ?_⟩
    rw [h1] at h
    have := parse_semis (M := M0) ts h
    rw [h1, this]
    unfold endsN
    rw [hx]
end Go.Proofs.YtedbpjcglnkjmaaGreatDoor
namespace Go.Proofs.YtedbpjcglnkjmaaGreatDoor
open Go.RowKit Lx Pa

mutual
theorem eqT_z {f g : Nat → Int} : ∀ n m : Tree, n.z = m.z → eqT false f g n m = true
  | .mk o p nm n d u ks, .mk o' p' nm' n' d' u' ks', h => by
    simp only [Tree.z, Tree.mk.injEq] at h
    obtain ⟨rfl, -, rfl, rfl, rfl, rfl, h⟩ := h
    simp [eqT, eqL_z ks ks' h]
theorem eqL_z {f g : Nat → Int} : ∀ a b : List Tree, zL a = zL b → eqL false f g a b = true
  | [], [], _ => rfl
  | k :: ks, k' :: ks', h => by
    simp only [zL, List.cons.injEq] at h
    simp [eqL, eqT_z k k' h.1, eqL_z ks ks' h.2]
  | [], _ :: _, h => by simp [zL] at h
  | _ :: _, [], h => by simp [zL] at h
end
/-! ### Expressions -/
theorem big_zz (n : Tree) : big n.z = big n := by unfold big; rw [siz_z, dep_z]
theorem src_of {l : List UInt8} {n : Tree} {ofs : Nat → Int} (h : exprR l = .ok n ofs) : Src M0 Vh l n.z := by
  unfold exprR at h
  cases hx : lex Vh l with
  | er E a => rw [hx] at h; cases h
  | ok ts =>
    rw [hx] at h
    simp only at h
    cases hs : singleO M0 ts with
    | er E q m => rw [hs] at h; cases h
    | ok n' r =>
      rw [hs] at h
      simp only [XRes.ok.injEq] at h
      obtain ⟨rfl, -⟩ := h
      unfold singleO at hs
      obtain ⟨a, r1, h1, h2⟩ := bind_inv hs
      split at h2
      · cases h2
      · rename_i h0
        split at h2
        · cases h2
        · rename_i hb
          simp only [Out.ok.injEq] at h2
          obtain ⟨rfl, rfl⟩ := h2
          have hr : r1 = [] := List.length_eq_zero_iff.1 (by simpa using h0)
          rw [hr] at h1
          exact ⟨ts, a, hx, h1, rfl, by simpa using hb⟩
theorem rdx_ex {s : List UInt8} {x : Tree} (h : Rdx M0 Vh s x) : (∃ n f, exprR s = .ok n f ∧ n.z = x) ∧ big x = false ∨ (∃ a, exprR s = .er 2 a) ∧ big x = true := by
  obtain ⟨us, n, h1, h2, rfl⟩ := h
  have hb : big n.z = big n := big_zz n
  unfold exprR singleO
  rw [h1]
  simp only [h2, bind_ok]
  cases hn : big n with
  | true => right; exact ⟨⟨_, by simp; rfl⟩, by rw [hb, hn]⟩
  | false => left; exact ⟨⟨n, _, by simp; rfl, rfl⟩, by rw [hb, hn]⟩
theorem two_ex {s t : List UInt8} (h : Two M0 Vh s t) : (∃ n m f g, exprR s = .ok n f ∧ exprR t = .ok m g ∧ eqT false f g n m = true) ∨ (∃ a b, exprR s = .er 2 a ∧ exprR t = .er 2 b) := by
  obtain ⟨x, h1, h2⟩ := h
  rcases rdx_ex h1 with ⟨⟨n, f, h3, h4⟩, hb⟩ | ⟨⟨a, h3⟩, hb⟩ <;> rcases rdx_ex h2 with ⟨⟨m, g, h5, h6⟩, hc⟩ | ⟨⟨b, h5⟩, hc⟩
  · exact .inl ⟨n, m, f, g, h3, h5, eqT_z _ _ (by rw [h4, h6])⟩
  · rw [hb] at hc; cases hc
  · rw [hb] at hc; cases hc
  · exact .inr ⟨a, b, h3, h5⟩
theorem one_ex {l : List UInt8} {n : Tree} {f : Nat → Int} (h : exprR l = .ok n f) (hl : l.length ≤ 900) : ∃ m g, exprR (par l) = .ok m g ∧ eqT false f g n m = true := by
  have hs := src_of h
  have h1 := br_one hs hl
  have hb : big n.z = false := by
    obtain ⟨ts, n', -, -, e, hb⟩ := hs.ex
    rw [big_zz, big_z e.symm, hb]
  rcases rdx_ex h1 with ⟨⟨m, g, h3, h4⟩, -⟩ | ⟨-, hc⟩
  · exact ⟨m, g, h3, eqT_z _ _ h4.symm⟩
  · rw [hb] at hc; cases hc
/-! ### By-laws -/
theorem parse_cl {us ts : List Tok} (h : us.map cl = ts.map cl) : parse M0 us = parse M0 ts := by
  have hl : us.length = ts.length := by simpa using congrArg List.length h
  have h1 := parse_map (M := M0) like_cl us.length us ⟨[], [], []⟩
  have h2 := parse_map (M := M0) like_cl ts.length ts ⟨[], [], []⟩
  unfold parse
  rw [← h1, ← h2, h, hl]
theorem by_lex {l : List UInt8} {ts : List Tok} (h : lex Vh l = .ok ts) : byR l = parse M0 ts ∧ ofsR l = offs ts l.length := by
  unfold byR ofsR; rw [h]; exact ⟨rfl, rfl⟩
theorem by_er {l : List UInt8} {E : Int} {a : Nat} (h : lex Vh l = .er E a) : byR l = ⟨[], [], [(E, 0)]⟩ := by
  unfold byR; rw [h]
theorem clo_then {x b : List UInt8} {t1 tb : List Tok} (h : Clo Vh x t1) (hb : lex Vh b = .ok tb) (hl : (x ++ b).length ≤ 8000) : lex Vh (x ++ b) = .ok (t1 ++ tb.map (mov (x.length : Nat))) ∨ ∃ a, lex Vh (x ++ b) = .er 2 a := by
  have h1 := h (t1.length + tb.length) 0 b (by omega)
  rw [lex_lx hb _ _ (by omega), Nat.zero_add] at h1
  have e0 : t1.map (mov ((0 : Nat) : Int)) = t1 := by
    have : (mov ((0 : Nat) : Int)) = (fun t => t) := by funext t; unfold mov; simp
    rw [this, List.map_id']
  rw [e0] at h1
  obtain ⟨-, f1, f2⟩ := lx_fuel _ _ _ _ h1
  unfold Lx.lex
  rw [if_neg (by omega)]
  by_cases hk : (t1 ++ tb.map (mov (x.length : Nat))).length ≤ 2000
  · exact .inl (f1 2000 hk)
  · exact .inr (f2 2000 (by omega))
theorem by_join {a b : List UInt8} (ha : (byR a).es = []) (hb : (byR b).es = []) (hl : a.length + b.length ≤ 7000) :
    (((byR a).ds.length + (byR b).ds.length ≤ 12 ∧ (byR a).rs.length + (byR b).rs.length ≤ 100) ∧ ∃ n, byR (a ++ 10 :: b) = ⟨(byR a).ds.map (Decl.sh n) ++ (byR b).ds, (byR a).rs.map (Rule.sh n) ++ (byR b).rs, []⟩)
    ∨ (¬ ((byR a).ds.length + (byR b).ds.length ≤ 12 ∧ (byR a).rs.length + (byR b).rs.length ≤ 100) ∧ (byR (a ++ 10 :: b)).es ≠ [])
    ∨ (byR (a ++ 10 :: b)).es = [(2, 0)] := by
  obtain ⟨ta, h1, h2, -, -⟩ := by_ok ha
  obtain ⟨tb, h3, h4, -, -⟩ := by_ok hb
  have e : a ++ 10 :: b = (a ++ [10]) ++ b := by simp
  rcases clo_then (clo_lex h1) h3 (by simp; omega) with h | ⟨q, h⟩
  · rw [e, (by_lex h).1, parse_cl (ts := ta ++ tb) (by rw [List.map_append, List.map_append, cl_mov])]
    rw [h2] at ha ⊢
    rw [h4] at hb ⊢
    rcases parse_join ha hb with ⟨k1, k2⟩ | k
    · exact .inl ⟨k1, _, k2⟩
    · exact .inr (.inl k)
  · rw [e, by_er h]; exact .inr (.inr rfl)
theorem by_blank {l : List UInt8} {ts : List Tok} {ps : List (List UInt8)} (k : Nat → Nat) (h : lex Vh l = .ok ts) (hp : Pcs Vh l 0 ts ps) (hl : l.length ≤ 900) : byR (weave k 0 ps ++ [10]) = byR l := by
  obtain ⟨us, h1, h2⟩ := blanks k h hp hl
  rw [(by_lex h).1, (by_lex h1).1, parse_cl h2]
theorem by_recover {a c b : List UInt8} (ha : (byR a).es = []) (hb : (byR b).es = []) (hn : endsN c = 1) (he : endsB c = true) (hall : 0 ≤ endsN (a ++ 10 :: (c ++ 10 :: b))) (hc : (byR c).es ≠ []) (hab : (byR (a ++ 10 :: b)).es = []) (hl : a.length + c.length + b.length ≤ 7000) :
    ∃ e k k', (byR c).es = [(e, k)] ∧ (byR (a ++ 10 :: (c ++ 10 :: b))).es = [(e, k')] ∧ ofsR (a ++ 10 :: (c ++ 10 :: b)) k' = a.length + 1 + ofsR c k ∧ 0 ≤ ofsR c k ∧ ofsR c k < c.length := by
  obtain ⟨ta, h1, h2, -, -⟩ := by_ok ha
  obtain ⟨tb, h3, h4, -, -⟩ := by_ok hb
  obtain ⟨tab, h5, h6, -, -⟩ := by_ok hab
  cases hx : lex Vh c with
  | er E q => unfold endsN at hn; rw [hx] at hn; cases hn
  | ok tc =>
    have c1 := by_lex hx
    unfold endsN at hn
    rw [hx] at hn
    unfold endsB at he
    rw [hx] at he
    simp only at hn he
    obtain ⟨pre, t, rfl⟩ : ∃ pre t, tc = pre ++ [t] := by
      cases hg : tc.getLast? with
      | none => rw [hg] at he; cases he
      | some t =>
        obtain ⟨pre, hp⟩ := List.getLast?_eq_some_iff.1 hg
        exact ⟨pre, t, hp⟩
    have ht : isT sSc t = true := by simpa using he
    have fp : Free pre := by
      unfold semis at hn
      rw [List.countP_append, List.countP_singleton, if_pos ht] at hn
      have h0 : pre.countP (isT sSc) = 0 := by omega
      intro u hu
      have := List.countP_eq_zero.1 h0 u hu
      simpa using this
    -- the whole text
    have ew : a ++ 10 :: (c ++ 10 :: b) = ((a ++ [10]) ++ (c ++ [10])) ++ b := by simp
    have hcl := (clo_lex h1).app (clo_lex hx)
    rcases clo_then hcl h3 (by simp; omega) with h | ⟨q, h⟩
    · have w1 := by_lex h
      rw [← ew] at w1 h
      rcases clo_then (clo_lex h1) h3 (by simp; omega) with h' | ⟨q, h'⟩
      · have eab : a ++ 10 :: b = (a ++ [10]) ++ b := by simp
        rw [eab, (by_lex h').1, parse_cl (ts := ta ++ tb) (by rw [List.map_append, List.map_append, cl_mov])] at hab
        rw [c1.1] at hc
        rw [h2] at ha
        rw [h4] at hb
        obtain ⟨e, k, k1, k2, k3, k4⟩ := parse_recover fp ht ha hb hab hc
        have hoc := offs_in hx k
        have hlt := offs_lt hx (k := k) (k' := 0) k1 (by simpa using k2)
        rw [offs_end] at hlt
        refine ⟨e, k, k + tb.length, by rw [c1.1]; exact k3, ?_, ?_, by rw [c1.2]; exact hoc.1, by rw [c1.2]; exact hlt⟩
        · rw [w1.1, parse_cl (ts := ta ++ ((pre ++ [t]) ++ tb)) ?_]
          · exact k4
          · simp only [List.map_append, cl_mov, List.append_assoc]
        · rw [w1.2, c1.2]
          have hk : (pre ++ [t]).length - k < (pre ++ [t]).length := by simp at k2 ⊢; omega
          have o1 := offs_at (ts := pre ++ [t]) hk rfl c.length
          rw [show (pre ++ [t]).length - ((pre ++ [t]).length - k) = k by simp at k2 ⊢; omega] at o1
          obtain ⟨T, hT⟩ : ∃ T, T = ta ++ (pre ++ [t]).map (mov ((a ++ [10]).length : Nat)) ++ tb.map (mov (((a ++ [10]) ++ (c ++ [10])).length : Nat)) := ⟨_, rfl⟩
          have hTl : T.length = ta.length + (pre ++ [t]).length + tb.length := by rw [hT]; simp; omega
          have hk3 : k ≤ (pre ++ [t]).length := by simpa using k2
          have hk2 : ta.length + ((pre ++ [t]).length - k) < T.length := by omega
          have o2 := offs_at (ts := T) hk2 rfl (a ++ 10 :: (c ++ 10 :: b)).length
          rw [show T.length - (ta.length + ((pre ++ [t]).length - k)) = k + tb.length by omega] at o2
          rw [← hT, o1, o2]
          subst hT
          rw [List.getElem_append_left (by simp at k2 ⊢; omega), List.getElem_append_right (by omega), List.getElem_map]
          simp only [Nat.add_sub_cancel_left, mov]
          simp only [List.length_append, List.length_singleton]
          omega
      · have eab : a ++ 10 :: b = (a ++ [10]) ++ b := by simp
        rw [eab, by_er h'] at hab
        cases hab
    · rw [← ew] at h
      unfold endsN at hall
      rw [h] at hall
      have hall : (0 : Int) ≤ -1 := hall
      omega
end Go.Proofs.YtedbpjcglnkjmaaGreatDoor
namespace Go.Proofs.YtedbpjcglnkjmaaGreatDoor
open Go.RowKit Lx Pa

theorem info_S : (Tryz.prog.info? 9).map (fun i => (i.zero.map (·.cells.size), i.size, decide (i.bytes ≤ 1000))) = some (some 1, 1, true) := by kernel_rfl
def vSt (p : List UInt8) : Value := .string (bs p)
/-- A slice of strings of the call's own. -/
def OwnS (w : World) (base : Nat) (v : Value) (l : List (List UInt8)) : Prop := w.ownsRow base 9 1 v l.length (l.map vSt)
theorem OwnS.bel {w w1 : World} {base : Nat} {v : Value} {l : List (List UInt8)} (h : OwnS w base v l) (hB : RowKit.Below w.heap.size w w1) : OwnS w1 base v l := own_heap h fun j _ hj => hB.block j hj
theorem OwnS.nil (w : World) (base : Nat) : OwnS w base (.slice none 0 0) [] := ⟨rfl, .inl ⟨rfl, rfl⟩⟩
theorem OwnS.shape {w : World} {base : Nat} {v : Value} {l : List (List UInt8)} (h : OwnS w base v l) : ∃ q c, v = .slice q l.length c := own_slice h
/-- A string is appended. -/
theorem OwnS.app {w : World} {base : Nat} {v : Value} {l : List (List UInt8)} (h : OwnS w base v l) (b : Nat) (x : List UInt8) (hx : w.cell? ⟨b, 0, none⟩ = some (vSt x)) (hl : l.length ≤ 1000000) (hb : base ≤ w.heap.size) :
    ∃ q c w', (Builtin.append_ #[45, 45] 45 #[v, .slice (some ⟨b, 0, none⟩) 1 1]).run Tryz.prog w = .ok (.slice q (l.length + 1) c) w' ∧ OwnS w' base (.slice q (l.length + 1) c) (l ++ [x]) ∧ RowKit.Below base w w' := by
  obtain ⟨v', w', hr, hown, hg, -⟩ := run_app1 45 9 1 Tryz.underlying45 info_S (by decide) w base 45 v l.length (l.map vSt) h b [vSt x] rfl (fun j u hu => by
    match j, hu with
    | 0, hu => simp only [List.getElem?_cons_zero, Option.some.injEq] at hu; rw [← hu]; exact hx) (fun u hu => by rw [List.mem_singleton] at hu; rw [hu]; rfl) hl hb
  obtain ⟨q, c, rfl⟩ := own_slice hown
  refine ⟨q, c, w', hr, ?_, (Below.refl base w).grown hg hb (fun j hj => (World.ownsRow.lt h j hj).1)⟩
  unfold OwnS
  rw [List.length_append, List.map_append]
  exact hown
theorem tok_at {w : World} {p : Option Addr} {b off len : Nat} {l : List Tok} (h : SlT w p b off len l) {k : Nat} (hk : k < l.length) :
    w.cell? ⟨b, off + k * 5, none⟩ = some (.int .i64 l[k].k) ∧ w.cell? ⟨b, off + k * 5 + 1, none⟩ = some (.int .i64 l[k].a) ∧ w.cell? ⟨b, off + k * 5 + 2, none⟩ = some (.string (bs l[k].t)) ∧ w.cell? ⟨b, off + k * 5 + 3, none⟩ = some (.int .i64 l[k].n) ∧ w.cell? ⟨b, off + k * 5 + 4, none⟩ = some (.int .i64 l[k].d) := h.cells k hk
/-- Lex at a source, its result a letter. -/
def GivesT (w : World) (n : Nat) (L : List Tok) (E : Int) (A : Int) (e : Ending) (w' : World) : Prop := ∃ q b cap, e = .returned (.tuple #[.slice q n cap, .int .i64 E, .int .i64 A]) ∧ SlT w' q b 0 n L ∧ n ≤ cap ∧ RowKit.Below w.heap.size w w'
theorem lexL {s : ByteArray} {l : List UInt8} {R : Res} {L : List Tok} {n : Nat} {E A : Int} (w : World) (hs : s.data.toList = l) (hR : lex Vh l = R) (hL : R.tk = L) (hn : L.length = n) (hE : R.e = E) (hA : (R.a : Int) = A) (hz : s.size ≤ 281474976710656) :
    Calls Tryz.prog 39 #[.string s] w fun e w' => GivesT w n L E A e w' := by
  subst hs hR hL hn hE hA
  refine (lex_any s w hz).mono ?_
  rintro e w' ⟨q, b, cap, n, rfl, h1, h2, h3⟩
  obtain rfl := h1.ln
  exact ⟨q, b, cap, rfl, h1, h2, h3⟩
theorem pcs_get {l0 : List UInt8} : ∀ (ts : List Tok) (ps : List (List UInt8)) (i : Nat), Pcs Vh l0 i ts ps → ∀ (k : Nat) (h : k < ts.length) (h' : k < ps.length), Pc Vh l0 ts[k] ps[k] ∧ (i : Int) ≤ ts[k].a ∧ ∀ (h2 : k + 1 < ts.length), ((ts[k].a.toNat + ps[k].length : Nat) : Int) ≤ ts[k + 1].a := by
  intro ts
  induction ts with
  | nil => intro ps i _ k h; exact absurd h (by simp)
  | cons t ts ih =>
    intro ps i hp k h h'
    cases ps with
    | nil => cases hp
    | cons p ps =>
      obtain ⟨h1, h2, h3⟩ := hp
      cases k with
      | zero =>
        refine ⟨h2, h1, fun h4 => ?_⟩
        cases ts with
        | nil => simp at h4
        | cons u us =>
          cases ps with
          | nil => cases h3
          | cons q qs => exact h3.1
      | succ k =>
        obtain ⟨i1, i2, i3⟩ := ih ps _ h3 k (by simpa using h) (by simpa using h')
        refine ⟨i1, ?_, fun h4 => i3 (by simpa using h4)⟩
        show (i : Int) ≤ (ts[k]'(by simpa using h)).a
        omega
theorem dpt_cases (c : UInt8) : (dpt c = true → (48 ≤ c.toNat ∧ c.toNat ≤ 57) ∨ (¬ 48 ≤ c.toNat ∧ c.toNat = 46)) ∧ (dpt c = false → (48 ≤ c.toNat ∧ ¬ c.toNat ≤ 57 ∧ c.toNat ≠ 46) ∨ (¬ 48 ≤ c.toNat ∧ c.toNat ≠ 46)) := by
  unfold dpt dgt
  constructor
  · intro h; simp at h; omega
  · intro h; simp at h; omega
/-- The bytes of a number, and the one behind it. -/
theorem pc_num {s : ByteArray} {l : List UInt8} {t : Tok} {p : List UInt8} {A : Nat} (hl : s.data.toList = l) (h : Pc Vh l t p) (hk : t.k = 2) (hA : t.a = (A : Int)) : A + p.length ≤ s.size ∧ 0 < p.length ∧ s.extract A (A + p.length) = bs p ∧ (∀ j (_ : j < p.length) (h2 : A + j < s.size), dpt s[A + j] = true) ∧ (∀ (h2 : A + p.length < s.size), dpt s[A + p.length] = false) := by
  have h1 := pc_in h
  have h2 := h.cut
  obtain ⟨h3, h4⟩ := h.num hk
  have e : t.a.toNat = A := by omega
  rw [e] at h1 h2 h4
  have hsz : s.size = l.length := by rw [← hl, len_bytes]
  have hne : p.length ≠ 0 := fun e => h.ne (List.length_eq_zero_iff.1 e)
  refine ⟨by omega, by omega, ?_, fun j hj h5 => ?_, fun h5 => ?_⟩
  · apply ByteArray.ext; apply Array.ext'
    have : (s.extract A (A + p.length)).data.toList = (l.drop A).take p.length := by
      rw [← hl]; simp [List.take_drop]
    rw [this, h2, List.take_left, bs_data]
  · rw [get_list s _ h5, hl, List.getD_eq_getElem?_getD, ← List.getElem?_drop, h2, List.getElem?_append_left hj, List.getElem?_eq_getElem hj, Option.getD_some]
    exact List.all_eq_true.1 h3 _ (List.getElem_mem hj)
  · refine h4 _ ?_
    rw [get_list s _ h5, hl, List.getD_eq_getElem?_getD, List.head?_drop, List.getElem?_eq_getElem (by omega), Option.getD_some]
set_option maxRecDepth 100000 in
set_option maxHeartbeats 6000000 in
theorem lexed_ok (s : ByteArray) (l : List UInt8) (ts : List Tok) (ps : List (List UInt8)) (hl : s.data.toList = l) (hs : s.size ≤ 281474976710656) (h : lex Vh l = .ok ts) (hp : Pcs Vh l 0 ts ps) (w : World) :
    Calls Tryz.prog 18 #[.string s] w fun e w' => ∃ q c, e = .returned (.tuple #[.slice q ps.length c, .bool true]) ∧ OwnS w' w.heap.size (.slice q ps.length c) ps ∧ RowKit.Below w.heap.size w w' := by
  have hsz : s.size = l.length := by rw [← hl, len_bytes]
  have KL := Lib.hid (fun w => lexL (s := s) (l := l) (L := ts) (n := ts.length) (E := 0) (A := 0) w hl h rfl rfl rfl rfl hs)
  have hs1 := lex_short h
  have hs8 := (lex_len h).2
  have hpl := pcs_len ts ps 0 hp
  obtain ⟨n, hn⟩ : ∃ n, ts.length = n := ⟨_, rfl⟩
  rw [hn] at KL hs1 hpl
  rw [hpl]
  have N1 := Lib.hid hn
  have PL := Lib.hid hpl
  have HP := Lib.hid hp
  have HL := Lib.hid hl
  have HZ := Lib.hid hsz
  have hsb : s.size ≤ 8000 := by omega
  clear hl h hp hn hpl hsz hs8
  go_enter Tryz.func18, Tryz.ntmps18
  go_wp2_with fail
  refine (KL.out _).mono ?_
  rintro _ w1 ⟨q2, b2, cap2, rfl, s2, hc2, hb2⟩
  have S2 := Lib.hid s2
  have B1 := Lib.hid hb2
  have hb0 := B1.out.size
  clear s2 hb2 KL
  go_wp2_with fail
  go_loopg [7, 22] n (fun g s7 s22 wv => ∃ (k : Nat) (q : Option Addr) (c : Nat), s22 = .int .i64 (k : Nat) ∧ k ≤ n ∧ n - k ≤ g ∧ s7 = .slice q k c ∧ Hid (OwnS wv w1.heap.size (.slice q k c) (ps.take k)) ∧ Hid (RowKit.Below w1.heap.size w1 wv))
  case atStart => exact ⟨0, none, 0, rfl, by omega, by omega, rfl, OwnS.nil _ _, Below.refl _ _⟩
  case round =>
    rename World => wv
    obtain ⟨k, q, c, rfl, hk, hkg, rfl, O1, BB⟩ := hrel
    by_cases hlt : k < n
    · have hltz : (k : Int) < (n : Int) := by omega
      have hkT : k < ts.length := by rw [N1.out]; exact hlt
      have hkP : k < ps.length := by rw [PL.out]; exact hlt
      have hpk : (ps.take k).length = k := by rw [List.length_take]; omega
      have hq := S2.out.ptr (by omega)
      have hk1 : IntKind.i64.wrap ((k : Int) + 1) = ((k + 1 : Nat) : Int) := by rw [IntWalk.i64_in _ (by omega)]; rfl
      have hw := BB.out.size
      obtain ⟨a0, a1, a2, a3, a4⟩ := tok_at (S2.out.bel BB.out) hkT
      obtain ⟨p1, p2, p3⟩ := pcs_get ts ps 0 HP.out k hkT hkP
      have TS : Hid (ps.take k ++ [ps[k]] = ps.take (k + 1)) := by show _ = _; rw [List.take_add_one, List.getElem?_eq_getElem hkP]; rfl
      have NX : Hid (∀ h : k + 1 < ts.length, ∃ E : Nat, wv.cell? ⟨b2, (k + 1) * 5 + 1, none⟩ = some (.int .i64 (E : Nat)) ∧ (ts[k].a.toNat + ps[k].length ≤ E) ∧ E ≤ s.size) := fun h => by
        obtain ⟨-, z, -⟩ := tok_at (S2.out.bel BB.out) h
        have := p3 h
        have hin := (pcs_at ts ps 0 HP.out).2 _ (List.getElem_mem h)
        have hz := HZ.out
        refine ⟨ts[k + 1].a.toNat, ?_, by omega, by omega⟩
        rw [Int.toNat_of_nonneg (by omega)]
        simpa using z
      obtain ⟨A, hA⟩ : ∃ A : Nat, ts[k].a = (A : Int) := ⟨ts[k].a.toNat, by omega⟩
      have PN : Hid (ts[k].k = 2 → _) := fun h => pc_num HL.out p1 h hA
      have PT : Hid (ts[k].k ≠ 2 → ts[k].t = ps[k]) := p1.txt
      clear p1 p2 p3
      generalize ts[k] = t at *
      generalize ps[k] = P at *
      obtain ⟨tk, ta, tt, tn, td⟩ := t
      simp only [Nat.zero_add] at a0 a1 a2 a3 a4
      simp only at PN PT NX hA
      subst hq hA
      by_cases htk : tk = 2
      · subst htk
        obtain ⟨n1, n2, n3, n4, n5⟩ := PN.out rfl
        have EX := Lib.hid n3
        have BY : Hid ((∀ j (_ : j < P.length) (h2 : A + j < s.size), dpt s[A + j] = true) ∧ (∀ (h2 : A + P.length < s.size), dpt s[A + P.length] = false)) := ⟨n4, n5⟩
        clear n3 n4 n5 PN PT
        obtain ⟨q', c', W2, hr, hown, hgb⟩ := (((O1.out.bel ((Below.refl _ _).alloc (Nat.le_refl _) (.cells #[.int .i64 2, .int .i64 (A : Nat), .string (bs tt), .int .i64 tn, .int .i64 td] 88))).bel ((Below.refl _ _).alloc (Nat.le_refl _) (.cells #[.string (bs P)] 9)))).app (wv.heap.size + 1) P (by rw [show wv.heap.size + 1 = (wv.alloc (.cells #[.int .i64 2, .int .i64 (A : Nat), .string (bs tt), .int .i64 tn, .int .i64 td] 88)).heap.size by simp]; simp [vSt]) (by rw [List.length_take]; omega) (by have := BB.out.size; simp; omega)
        rw [hpk] at hr hown
        have HRA := Lib.hid hr
        have O2 : Hid (OwnS W2 w1.heap.size (.slice q' (k + 1) c') (ps.take (k + 1))) := by
          show OwnS _ _ _ _
          rw [← TS.out]; exact hown
        have B2 : Hid (RowKit.Below w1.heap.size w1 W2) := by
          have hz := BB.out.size
          exact ((BB.out.alloc hz _).alloc (by simp; omega) _).trans (hgb.mono (Nat.le_refl _))
        clear hr hown hgb
        by_cases hnx : k + 1 < n
        · have hnz : ((k + 1 : Nat) : Int) < (n : Int) := by omega
          obtain ⟨E, hE, hE1, hE2⟩ := NX.out (by rw [N1.out]; exact hnx)
          rw [Int.toNat_natCast] at hE1
          have hE' : (wv.alloc (.cells #[.int .i64 2, .int .i64 (A : Nat), .string (bs tt), .int .i64 tn, .int .i64 td] 88)).cell? ⟨b2, (k + 1) * 5 + 1, none⟩ = some (.int .i64 (E : Nat)) := by
            rw [cell_past _ _ _ (World.block_lt_of_cell? _ _ hE)]; exact hE
          have hle : (E : Int) ≤ (s.size : Int) := by omega
          have hmin : min (s.size : Int) (E : Int) = (E : Int) := by omega
          clear NX hE
          go_wp2_with fail
          go_loopg [11] (P.length) (fun g s11 wi => ∃ j : Nat, s11 = .int .i64 ((A + j : Nat) : Int) ∧ j ≤ P.length ∧ P.length - j ≤ g ∧ Hid (wi = wv.alloc (.cells #[.int .i64 2, .int .i64 (A : Nat), .string (bs tt), .int .i64 tn, .int .i64 td] 88)))
          case atStart => exact ⟨0, by first | rfl | simp, by omega, by omega, rfl⟩
          case round =>
            obtain ⟨j, rfl, hj, hjg, HI⟩ := hrel
            obtain rfl := HI.out
            clear HI
            obtain ⟨m, hm⟩ : ∃ m, m = A + j := ⟨_, rfl⟩
            rw [← hm]
            have HM := Lib.hid hm
            have em : decide ((0 : Int) ≤ (m : Int)) = true := decide_eq_true (by omega)
            by_cases hjl : j < P.length
            · have hmE : m < E := by omega
              have e3 : decide ((m : Int) < (E : Int)) = true := decide_eq_true (by omega)
              have e3' : decide (m < E) = true := decide_eq_true (by omega)
              have hms : m < s.size := by omega
              have hmsz : (m : Int) < (s.size : Int) := by omega
              have hk1 : IntKind.i64.wrap ((m : Int) + 1) = ((m + 1 : Nat) : Int) := by rw [IntWalk.i64_in _ (by omega)]; rfl
              have hd := (BY.out.1 j hjl (by omega))
              rw [show s[A + j]'(by omega) = s[m] by simp only [hm]] at hd
              obtain ⟨cc, hc⟩ : ∃ c, c = s[m].toNat := ⟨_, rfl⟩
              rcases (dpt_cases _).1 hd with ⟨d1, d2⟩ | ⟨d1, d2⟩
              · rw [← hc] at d1 d2
                have f1 : decide ((48 : Int) ≤ (cc : Int)) = true := decide_eq_true (by omega)
                have f2 : decide ((cc : Int) ≤ 57) = true := decide_eq_true (by omega)
                rw [hc] at f1 f2
                clear hd d1 d2 hc hm
                go_wp2_with fail
                go_roundg (P.length - (j + 1))
                case measure => omega
                case rel => exact ⟨j + 1, by have := HM.out; simp; omega, by omega, Nat.le_refl _, rfl⟩
              · rw [← hc] at d1 d2
                have f1 : decide ((48 : Int) ≤ (cc : Int)) = false := decide_eq_false (by omega)
                have f2 : ((cc : Int) == 46) = true := by rw [d2]; rfl
                rw [hc] at f1 f2
                clear hd d1 d2 hc hm
                go_wp2_with fail
                go_roundg (P.length - (j + 1))
                case measure => omega
                case rel => exact ⟨j + 1, by have := HM.out; simp; omega, by omega, Nat.le_refl _, rfl⟩
            · obtain rfl : j = P.length := by omega
              have hex : Hid (s.extract A m = bs P) := by show _ = _; rw [hm]; exact EX.out
              have g1 : decide ((m : Int) ≤ (A : Int)) = false := decide_eq_false (by omega)
              have g1' : decide (m ≤ A) = false := decide_eq_false (by omega)
              have g2 : (A : Int) ≤ (m : Int) := by omega
              have g2' : A ≤ m := by omega
              have g3 : (m : Int) ≤ (s.size : Int) := by omega
              have g3' : m ≤ s.size := by omega
              have g4 : decide ((A : Int) < 0) = false := decide_eq_false (by omega)
              have EXm : s.extract A m = bs P := hex.out
              clear hex
              by_cases hmE : m < E
              · have e3 : decide ((m : Int) < (E : Int)) = true := decide_eq_true (by omega)
                have e3' : decide (m < E) = true := decide_eq_true (by omega)
                have hms : m < s.size := by omega
                have hmsz : (m : Int) < (s.size : Int) := by omega
                have hd := (BY.out.2 (by omega))
                rw [show s[A + P.length]'(by omega) = s[m] by simp only [hm]] at hd
                obtain ⟨cc, hc⟩ : ∃ c, c = s[m].toNat := ⟨_, rfl⟩
                rcases (dpt_cases _).2 hd with ⟨d1, d2, d3⟩ | ⟨d1, d3⟩
                · rw [← hc] at d1 d2 d3
                  have f1 : decide ((48 : Int) ≤ (cc : Int)) = true := decide_eq_true (by omega)
                  have f2 : decide ((cc : Int) ≤ 57) = false := decide_eq_false (by omega)
                  have f3 : ((cc : Int) == 46) = false := by simp; omega
                  rw [hc] at f1 f2 f3
                  clear hd d1 d2 d3 hc hm
                  go_wp2_with ((with_reducible show wpList _ _ _ ({ dst := some 95, op := _, type := _, pos := _, after := _, guard := _ } :: _) _ _); refine wl_app (v := .slice q k c) (y := .slice (some ⟨wv.heap.size + 1, 0, none⟩) 1 1) (.tmp 88) (.tmp 94) rfl rfl rfl rfl HRA.out ?_)
                  go_roundg (n - (k + 1))
                  case measure => omega
                  case rel => exact ⟨k + 1, q', c', by first | rfl | simp, by omega, Nat.le_refl _, rfl, O2, B2⟩
                · rw [← hc] at d1 d3
                  have f1 : decide ((48 : Int) ≤ (cc : Int)) = false := decide_eq_false (by omega)
                  have f3 : ((cc : Int) == 46) = false := by simp; omega
                  rw [hc] at f1 f3
                  clear hd d1 d3 hc hm
                  go_wp2_with ((with_reducible show wpList _ _ _ ({ dst := some 95, op := _, type := _, pos := _, after := _, guard := _ } :: _) _ _); refine wl_app (v := .slice q k c) (y := .slice (some ⟨wv.heap.size + 1, 0, none⟩) 1 1) (.tmp 88) (.tmp 94) rfl rfl rfl rfl HRA.out ?_)
                  go_roundg (n - (k + 1))
                  case measure => omega
                  case rel => exact ⟨k + 1, q', c', by first | rfl | simp, by omega, Nat.le_refl _, rfl, O2, B2⟩
              · have e3 : decide ((m : Int) < (E : Int)) = false := decide_eq_false (by omega)
                have e3' : decide (m < E) = false := decide_eq_false (by omega)
                clear hm
                go_wp2_with ((with_reducible show wpList _ _ _ ({ dst := some 95, op := _, type := _, pos := _, after := _, guard := _ } :: _) _ _); refine wl_app (v := .slice q k c) (y := .slice (some ⟨wv.heap.size + 1, 0, none⟩) 1 1) (.tmp 88) (.tmp 94) rfl rfl rfl rfl HRA.out ?_)
                go_roundg (n - (k + 1))
                case measure => omega
                case rel => exact ⟨k + 1, q', c', by first | rfl | simp, by omega, Nat.le_refl _, rfl, O2, B2⟩
        · have hnz : ¬ ((k + 1 : Nat) : Int) < (n : Int) := by omega
          have hE1 : A + P.length ≤ s.size := n1
          have hE2 : s.size ≤ s.size := Nat.le_refl _
          clear NX
          go_wp2_with fail
          go_loopg [11] (P.length) (fun g s11 wi => ∃ j : Nat, s11 = .int .i64 ((A + j : Nat) : Int) ∧ j ≤ P.length ∧ P.length - j ≤ g ∧ Hid (wi = wv.alloc (.cells #[.int .i64 2, .int .i64 (A : Nat), .string (bs tt), .int .i64 tn, .int .i64 td] 88)))
          case atStart => exact ⟨0, by first | rfl | simp, by omega, by omega, rfl⟩
          case round =>
            obtain ⟨j, rfl, hj, hjg, HI⟩ := hrel
            obtain rfl := HI.out
            clear HI
            obtain ⟨m, hm⟩ : ∃ m, m = A + j := ⟨_, rfl⟩
            rw [← hm]
            have HM := Lib.hid hm
            have em : decide ((0 : Int) ≤ (m : Int)) = true := decide_eq_true (by omega)
            by_cases hjl : j < P.length
            · have hmE : m < s.size := by omega
              have e3 : decide ((m : Int) < (s.size : Int)) = true := decide_eq_true (by omega)
              have e3' : decide (m < s.size) = true := decide_eq_true (by omega)
              have hms : m < s.size := by omega
              have hmsz : (m : Int) < (s.size : Int) := by omega
              have hk1 : IntKind.i64.wrap ((m : Int) + 1) = ((m + 1 : Nat) : Int) := by rw [IntWalk.i64_in _ (by omega)]; rfl
              have hd := (BY.out.1 j hjl (by omega))
              rw [show s[A + j]'(by omega) = s[m] by simp only [hm]] at hd
              obtain ⟨cc, hc⟩ : ∃ c, c = s[m].toNat := ⟨_, rfl⟩
              rcases (dpt_cases _).1 hd with ⟨d1, d2⟩ | ⟨d1, d2⟩
              · rw [← hc] at d1 d2
                have f1 : decide ((48 : Int) ≤ (cc : Int)) = true := decide_eq_true (by omega)
                have f2 : decide ((cc : Int) ≤ 57) = true := decide_eq_true (by omega)
                rw [hc] at f1 f2
                clear hd d1 d2 hc hm
                go_wp2_with fail
                go_roundg (P.length - (j + 1))
                case measure => omega
                case rel => exact ⟨j + 1, by have := HM.out; simp; omega, by omega, Nat.le_refl _, rfl⟩
              · rw [← hc] at d1 d2
                have f1 : decide ((48 : Int) ≤ (cc : Int)) = false := decide_eq_false (by omega)
                have f2 : ((cc : Int) == 46) = true := by rw [d2]; rfl
                rw [hc] at f1 f2
                clear hd d1 d2 hc hm
                go_wp2_with fail
                go_roundg (P.length - (j + 1))
                case measure => omega
                case rel => exact ⟨j + 1, by have := HM.out; simp; omega, by omega, Nat.le_refl _, rfl⟩
            · obtain rfl : j = P.length := by omega
              have hex : Hid (s.extract A m = bs P) := by show _ = _; rw [hm]; exact EX.out
              have g1 : decide ((m : Int) ≤ (A : Int)) = false := decide_eq_false (by omega)
              have g1' : decide (m ≤ A) = false := decide_eq_false (by omega)
              have g2 : (A : Int) ≤ (m : Int) := by omega
              have g2' : A ≤ m := by omega
              have g3 : (m : Int) ≤ (s.size : Int) := by omega
              have g3' : m ≤ s.size := by omega
              have g4 : decide ((A : Int) < 0) = false := decide_eq_false (by omega)
              have EXm : s.extract A m = bs P := hex.out
              clear hex
              by_cases hmE : m < s.size
              · have e3 : decide ((m : Int) < (s.size : Int)) = true := decide_eq_true (by omega)
                have e3' : decide (m < s.size) = true := decide_eq_true (by omega)
                have hms : m < s.size := by omega
                have hmsz : (m : Int) < (s.size : Int) := by omega
                have hd := (BY.out.2 (by omega))
                rw [show s[A + P.length]'(by omega) = s[m] by simp only [hm]] at hd
                obtain ⟨cc, hc⟩ : ∃ c, c = s[m].toNat := ⟨_, rfl⟩
                rcases (dpt_cases _).2 hd with ⟨d1, d2, d3⟩ | ⟨d1, d3⟩
                · rw [← hc] at d1 d2 d3
                  have f1 : decide ((48 : Int) ≤ (cc : Int)) = true := decide_eq_true (by omega)
                  have f2 : decide ((cc : Int) ≤ 57) = false := decide_eq_false (by omega)
                  have f3 : ((cc : Int) == 46) = false := by simp; omega
                  rw [hc] at f1 f2 f3
                  clear hd d1 d2 d3 hc hm
                  go_wp2_with ((with_reducible show wpList _ _ _ ({ dst := some 95, op := _, type := _, pos := _, after := _, guard := _ } :: _) _ _); refine wl_app (v := .slice q k c) (y := .slice (some ⟨wv.heap.size + 1, 0, none⟩) 1 1) (.tmp 88) (.tmp 94) rfl rfl rfl rfl HRA.out ?_)
                  go_roundg (n - (k + 1))
                  case measure => omega
                  case rel => exact ⟨k + 1, q', c', by first | rfl | simp, by omega, Nat.le_refl _, rfl, O2, B2⟩
                · rw [← hc] at d1 d3
                  have f1 : decide ((48 : Int) ≤ (cc : Int)) = false := decide_eq_false (by omega)
                  have f3 : ((cc : Int) == 46) = false := by simp; omega
                  rw [hc] at f1 f3
                  clear hd d1 d3 hc hm
                  go_wp2_with ((with_reducible show wpList _ _ _ ({ dst := some 95, op := _, type := _, pos := _, after := _, guard := _ } :: _) _ _); refine wl_app (v := .slice q k c) (y := .slice (some ⟨wv.heap.size + 1, 0, none⟩) 1 1) (.tmp 88) (.tmp 94) rfl rfl rfl rfl HRA.out ?_)
                  go_roundg (n - (k + 1))
                  case measure => omega
                  case rel => exact ⟨k + 1, q', c', by first | rfl | simp, by omega, Nat.le_refl _, rfl, O2, B2⟩
              · have e3 : decide ((m : Int) < (s.size : Int)) = false := decide_eq_false (by omega)
                have e3' : decide (m < s.size) = false := decide_eq_false (by omega)
                clear hm
                go_wp2_with ((with_reducible show wpList _ _ _ ({ dst := some 95, op := _, type := _, pos := _, after := _, guard := _ } :: _) _ _); refine wl_app (v := .slice q k c) (y := .slice (some ⟨wv.heap.size + 1, 0, none⟩) 1 1) (.tmp 88) (.tmp 94) rfl rfl rfl rfl HRA.out ?_)
                go_roundg (n - (k + 1))
                case measure => omega
                case rel => exact ⟨k + 1, q', c', by first | rfl | simp, by omega, Nat.le_refl _, rfl, O2, B2⟩
      · have e2 : (tk == 2) = false := by simpa using htk
        have e2' : (tk != 2) = true := by simpa using htk
        obtain rfl := PT.out htk
        clear PN PT NX
        obtain ⟨q', c', W2, hr, hown, hgb⟩ := (((O1.out.bel ((Below.refl _ _).alloc (Nat.le_refl _) (.cells #[.int .i64 tk, .int .i64 (A : Nat), .string (bs tt), .int .i64 tn, .int .i64 td] 88))).bel ((Below.refl _ _).alloc (Nat.le_refl _) (.cells #[.string (bs tt)] 9)))).app (wv.heap.size + 1) tt (by rw [show wv.heap.size + 1 = (wv.alloc (.cells #[.int .i64 tk, .int .i64 (A : Nat), .string (bs tt), .int .i64 tn, .int .i64 td] 88)).heap.size by simp]; simp [vSt]) (by rw [List.length_take]; omega) (by have := BB.out.size; simp; omega)
        rw [hpk] at hr hown
        have HRA := Lib.hid hr
        have O2 : Hid (OwnS W2 w1.heap.size (.slice q' (k + 1) c') (ps.take (k + 1))) := by
          show OwnS _ _ _ _
          rw [← TS.out]; exact hown
        have B2 : Hid (RowKit.Below w1.heap.size w1 W2) := by
          have hz := BB.out.size
          exact ((BB.out.alloc hz _).alloc (by simp; omega) _).trans (hgb.mono (Nat.le_refl _))
        clear hr hown hgb
        go_wp2_with ((with_reducible show wpList _ _ _ ({ dst := some 34, op := _, type := _, pos := _, after := _, guard := _ } :: _) _ _); refine wl_app (v := .slice q k c) (y := .slice (some ⟨wv.heap.size + 1, 0, none⟩) 1 1) (.tmp 30) (.tmp 33) rfl rfl rfl rfl HRA.out ?_)
        go_roundg (n - (k + 1))
        case measure => omega
        case rel => exact ⟨k + 1, q', c', by first | rfl | simp, by omega, Nat.le_refl _, rfl, O2, B2⟩
    · have hltz : ¬ (k : Int) < (n : Int) := by omega
      obtain rfl : k = n := by omega
      have hO := O1.out
      rw [List.take_of_length_le (by rw [PL.out]; omega)] at hO
      go_wp2_with fail
      go_ret2
      exact ⟨q, c, rfl, own_mono hO hb0, B1.out.trans (BB.out.mono hb0)⟩
set_option maxRecDepth 100000 in
set_option maxHeartbeats 1000000 in
theorem lexed_er (s : ByteArray) (l : List UInt8) (E : Int) (a : Nat) (hl : s.data.toList = l) (hs : s.size ≤ 281474976710656) (h : lex Vh l = .er E a) (w : World) :
    Calls Tryz.prog 18 #[.string s] w fun e w' => e = .returned (.tuple #[.slice none 0 0, .bool false]) ∧ RowKit.Below w.heap.size w w' := by
  have KL := Lib.hid (fun w => lexL (s := s) (l := l) (L := []) (n := 0) (E := E) (A := a) w hl h rfl rfl rfl rfl hs)
  have e1 : (E == 0) = false := by simpa using (lex_er h).1
  have e2 : (E != 0) = true := by simpa using (lex_er h).1
  clear hl h
  go_enter Tryz.func18, Tryz.ntmps18
  go_wp2_with fail
  refine (KL.out _).mono ?_
  rintro _ w1 ⟨q2, b2, cap2, rfl, s2, hc2, hb2⟩
  have B1 := Lib.hid hb2
  clear s2 hb2
  go_wp2_with fail
  go_ret2
  exact ⟨rfl, B1.out⟩
end Go.Proofs.YtedbpjcglnkjmaaGreatDoor
namespace Go.Proofs.YtedbpjcglnkjmaaGreatDoor
open Go.RowKit Lx Pa

theorem ret_ib {a b : Int} {x y : Bool} (h : a = b) (k : x = y) : Ending.returned (.tuple #[.int .i64 a, .bool x]) = .returned (.tuple #[.int .i64 b, .bool y]) := by rw [h, k]
set_option maxRecDepth 100000 in
set_option maxHeartbeats 4000000 in
theorem ends_any (s : ByteArray) (l : List UInt8) (hl : s.data.toList = l) (hs : s.size ≤ 281474976710656) (w : World) :
    Calls Tryz.prog 19 #[.string s] w fun e w' => e = .returned (.tuple #[.int .i64 (endsN l), .bool (endsB l)]) ∧ RowKit.Below w.heap.size w w' := by
  cases hx : lex Vh l with
  | er E a =>
    have KL := Lib.hid (fun w => lexed_er s l E a hl hs hx w)
    have h1 : endsN l = -1 := by unfold endsN; rw [hx]
    have h2 : endsB l = false := by unfold endsB; rw [hx]
    rw [h1, h2]
    clear h1 h2 hx hl
    go_enter Tryz.func19, Tryz.ntmps19
    go_wp2_with fail
    refine (KL.out _).mono ?_
    rintro _ w1 ⟨rfl, hb⟩
    have B1 := Lib.hid hb
    clear hb
    go_wp2_with fail
    go_ret2
    exact ⟨rfl, B1.out⟩
  | ok ts =>
    obtain ⟨ps, hp⟩ := lex_pcs hx
    have KL := Lib.hid (fun w => lexed_ok s l ts ps hl hs hx hp w)
    obtain ⟨h3, h4⟩ := pcs_sc ts ps 0 hp
    have h5 := pcs_len ts ps 0 hp
    have h6 := lex_short hx
    obtain ⟨N, hN⟩ : ∃ N, endsN l = N := ⟨_, rfl⟩
    obtain ⟨B, hB⟩ : ∃ B, endsB l = B := ⟨_, rfl⟩
    have HN : Hid (((ps.countP (· == sSc) : Nat) : Int) = N) := by show _ = _; rw [← hN]; unfold endsN; rw [hx, h3]
    have HB : Hid ((ps.getLast?.map (· == sSc)).getD false = B) := by show _ = _; rw [← hB]; unfold endsB; rw [hx, h4]
    rw [hN, hB]
    obtain ⟨n, hn⟩ : ∃ n, ps.length = n := ⟨_, rfl⟩
    have hn2 : n ≤ 2000 := by omega
    rw [hn] at KL
    have PL := Lib.hid hn
    clear hN hB hx hp h3 h4 h5 h6 hl hn
    go_enter Tryz.func19, Tryz.ntmps19
    go_wp2_with fail
    refine (KL.out _).mono ?_
    rintro _ w1 ⟨q, c, rfl, ho, hb⟩
    have O1 := Lib.hid ho
    have B1 := Lib.hid hb
    clear ho hb KL
    go_wp2_with fail
    go_loopg [6, 18] n (fun g s6 s18 wr => ∃ (k C : Nat), s18 = .int .i64 (k : Nat) ∧ s6 = .int .i64 (C : Nat) ∧ k ≤ n ∧ n - k ≤ g ∧ Hid ((ps.take k).countP (· == sSc) = C) ∧ Hid (RowKit.Below w1.heap.size w1 wr))
    case atStart => exact ⟨0, 0, by first | rfl | simp, by first | rfl | simp, by omega, by omega, rfl, Below.refl _ _⟩
    case round =>
      obtain ⟨k, C, rfl, rfl, hk, hg, HC, BB⟩ := hrel
      by_cases hlt : k < n
      · have hz : (k : Int) < (n : Int) := by omega
        have hkP : k < ps.length := by rw [PL.out]; exact hlt
        have hCk : C ≤ k := by
          have := List.countP_le_length (p := (· == sSc)) (l := ps.take k)
          rw [HC.out, List.length_take] at this; omega
        have hk1 : IntKind.i64.wrap ((k : Int) + 1) = ((k + 1 : Nat) : Int) := by rw [IntWalk.i64_in _ (by omega)]; rfl
        have hc1 : IntKind.i64.wrap ((C : Int) + 1) = ((C + 1 : Nat) : Int) := by rw [IntWalk.i64_in _ (by omega)]; rfl
        obtain ⟨g1, cap, e, -, hgl, hrow, -⟩ := own_at O1.out (by rw [PL.out]; omega)
        simp only [Value.slice.injEq] at e
        obtain ⟨rfl, -, rfl⟩ := e
        have hc := (BB.out.cell (p := ⟨g1, k, none⟩) hgl).trans (hrow k (vSt ps[k]) (by rw [List.getElem?_map, List.getElem?_eq_getElem hkP]; rfl))
        have HT : Hid ((ps.take (k + 1)).countP (· == sSc) = C + (if ps[k] == sSc then 1 else 0)) := by
          show _ = _
          rw [List.take_add_one, List.getElem?_eq_getElem hkP, Option.toList_some, List.countP_append, HC.out, List.countP_singleton]
        unfold vSt at hc
        generalize ps[k] = P at *
        clear hrow HC
        by_cases hP : P = sSc
        · have e1 : ((bs P).toList == [59]) = true := by rw [bs_list, hP]; rfl
          have HT' : Hid ((ps.take (k + 1)).countP (· == sSc) = C + 1) := by
            show _ = _
            rw [HT.out, if_pos (by simpa using hP)]
          clear hP HT
          go_wp2_with fail
          go_roundg (n - (k + 1))
          case measure => omega
          case rel => exact ⟨k + 1, C + 1, by first | rfl | simp, by first | rfl | simp, by omega, Nat.le_refl _, HT', BB⟩
        · have e1 : ((bs P).toList == [59]) = false := by rw [bs_list]; simpa [sSc] using hP
          have HT' : Hid ((ps.take (k + 1)).countP (· == sSc) = C) := by
            show _ = _
            rw [HT.out, if_neg (by simpa using hP), Nat.add_zero]
          clear hP HT
          go_wp2_with fail
          go_roundg (n - (k + 1))
          case measure => omega
          case rel => exact ⟨k + 1, C, by first | rfl | simp, by first | rfl | simp, by omega, Nat.le_refl _, HT', BB⟩
      · have hz : ¬ (k : Int) < (n : Int) := by omega
        obtain rfl : k = n := by omega
        have HCN : Hid ((C : Int) = N) := by
          show _ = _
          rw [← HN.out, ← HC.out, List.take_of_length_le (by rw [PL.out]; omega)]
        clear HC
        by_cases h0 : k = 0
        · have e0 : decide ((0 : Int) < (k : Int)) = false := decide_eq_false (by omega)
          have e0' : decide (0 < k) = false := decide_eq_false (by omega)
          have HBf : Hid (false = B) := by
            show _ = _
            have hps : ps = [] := List.length_eq_zero_iff.1 (by rw [PL.out]; exact h0)
            rw [← HB.out, hps]; rfl
          have HF := Lib.hid (B1.out.trans (BB.out.mono B1.out.size))
          clear h0
          go_wp2_with fail
          go_quiet (fail)
          go_wp2_with fail
          go_ret2
          exact ⟨ret_ib HCN.out HBf.out, below_drewN HF.out _⟩
        · obtain ⟨m, hm⟩ : ∃ m, k = m + 1 := ⟨k - 1, by omega⟩
          have e0 : decide ((0 : Int) < (k : Int)) = true := decide_eq_true (by omega)
          have e0' : decide (0 < k) = true := decide_eq_true (by omega)
          have hmk : (m : Int) < (k : Int) := by omega
          have hm1 : IntKind.i64.wrap ((k : Int) - 1) = (m : Int) := by rw [IntWalk.i64_in _ (by omega)]; omega
          have hmP : m < ps.length := by rw [PL.out]; omega
          obtain ⟨g1, cap, e, -, hgl, hrow, -⟩ := own_at O1.out (by rw [PL.out]; omega)
          simp only [Value.slice.injEq] at e
          obtain ⟨rfl, -, rfl⟩ := e
          have hc := (BB.out.cell (p := ⟨g1, m, none⟩) hgl).trans (hrow m (vSt ps[m]) (by rw [List.getElem?_map, List.getElem?_eq_getElem hmP]; rfl))
          have HBm : Hid ((ps[m] == sSc) = B) := by
            show _ = _
            rw [← HB.out, List.getLast?_eq_getElem?, PL.out, hm, Nat.add_sub_cancel, List.getElem?_eq_getElem hmP]; rfl
          unfold vSt at hc
          have HF := Lib.hid (B1.out.trans (BB.out.mono B1.out.size))
          generalize ps[m] = P at *
          clear hrow hm h0
          by_cases hP : P = sSc
          · have e1 : ((bs P).toList == [59]) = true := by rw [bs_list, hP]; rfl
            have HBt : Hid (true = B) := by show _ = _; rw [← HBm.out, hP]; rfl
            clear hP HBm
            go_wp2_with fail
            go_quiet (fail)
            go_wp2_with fail
            go_ret2
            exact ⟨ret_ib HCN.out HBt.out, below_drewN HF.out _⟩
          · have e1 : ((bs P).toList == [59]) = false := by rw [bs_list]; simpa [sSc] using hP
            have HBt : Hid (false = B) := by show _ = _; rw [← HBm.out]; symm; simpa using hP
            clear hP HBm
            go_wp2_with fail
            go_quiet (fail)
            go_wp2_with fail
            go_ret2
            exact ⟨ret_ib HCN.out HBt.out, below_drewN HF.out _⟩
end Go.Proofs.YtedbpjcglnkjmaaGreatDoor
