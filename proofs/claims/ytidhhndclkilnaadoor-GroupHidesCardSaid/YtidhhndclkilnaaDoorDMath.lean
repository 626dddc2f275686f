/-
  Mathematics of layer 6: the digest of bytes, nodes, levels, roots, paths, and what is accepted. No program in it.
-/
import Derived.Lib.ItoaLen
namespace Go.Proofs.YtidhhndclkilnaaDoor
namespace Dg

/-! ### The digest -/
theorem stp_ex : ∃ f : Nat → Nat → Nat, ∀ h c, f h c = (h ^^^ c) * 1099511628211 % 18446744073709551616 := ⟨_, fun _ _ => rfl⟩
/-- One byte more. (By choice, so that nothing unfolds it.) -/
noncomputable def stp : Nat → Nat → Nat := Classical.choose stp_ex
theorem stp_def (h c : Nat) : stp h c = (h ^^^ c) * 1099511628211 % 18446744073709551616 := Classical.choose_spec stp_ex h c
noncomputable def dgF (h : Nat) : List Nat → Nat
  | [] => h
  | c :: l => dgF (stp h c) l
theorem dig_ex : ∃ f : List Nat → Nat, ∀ l, f l = dgF 14695981039346656037 l := ⟨_, fun _ => rfl⟩
/-- The digest of bytes. (By choice, as well.) -/
noncomputable def dig : List Nat → Nat := Classical.choose dig_ex
theorem dig_def (l : List Nat) : dig l = dgF 14695981039346656037 l := Classical.choose_spec dig_ex l
theorem stp_lt (h c : Nat) : stp h c < 18446744073709551616 := by rw [stp_def]; exact Nat.mod_lt _ (by decide)
theorem dgF_lt : ∀ (l : List Nat) {h : Nat}, h < 18446744073709551616 → dgF h l < 18446744073709551616
  | [], _, hh => hh
  | c :: l, h, _ => dgF_lt l (stp_lt h c)
theorem dig_lt (l : List Nat) : dig l < 18446744073709551616 := by rw [dig_def]; exact dgF_lt l (by decide)
theorem dgF_app : ∀ (l m : List Nat) (h : Nat), dgF h (l ++ m) = dgF (dgF h l) m
  | [], _, _ => rfl
  | c :: l, m, h => dgF_app l m (stp h c)
theorem dig_app (l m : List Nat) : dig (l ++ m) = dgF (dig l) m := by rw [dig_def, dig_def]; exact dgF_app l m _

theorem mul_back (x : Nat) : x * 1099511628211 % 18446744073709551616 * 14886173955864302971 % 18446744073709551616 = x % 18446744073709551616 := by
  rw [Nat.mod_mul_mod, Nat.mul_assoc]
  have e : 1099511628211 * 14886173955864302971 = 1 + 18446744073709551616 * 887285111055 := by decide
  rw [e, Nat.mul_add, Nat.mul_one, ← Nat.mul_assoc, Nat.mul_comm x 18446744073709551616, Nat.mul_assoc, Nat.add_mul_mod_self_left]
theorem mul_inj {x y : Nat} (hx : x < 18446744073709551616) (hy : y < 18446744073709551616) (h : x * 1099511628211 % 18446744073709551616 = y * 1099511628211 % 18446744073709551616) : x = y := by
  have h1 := mul_back x
  have h2 := mul_back y
  rw [h, h2, Nat.mod_eq_of_lt hx, Nat.mod_eq_of_lt hy] at h1
  exact h1.symm
theorem stp_inj {h h' c : Nat} (h1 : h < 18446744073709551616) (h2 : h' < 18446744073709551616) (hc : c < 18446744073709551616) (e : stp h c = stp h' c) : h = h' := by
  have b1 : h ^^^ c < 2 ^ 64 := Nat.xor_lt_two_pow (by omega) (by omega)
  have b2 : h' ^^^ c < 2 ^ 64 := Nat.xor_lt_two_pow (by omega) (by omega)
  rw [stp_def, stp_def] at e
  have := mul_inj (by omega) (by omega) e
  have k := congrArg (· ^^^ c) this
  simpa [Nat.xor_assoc] using k
theorem stp_inj2 {h c c' : Nat} (h1 : h < 18446744073709551616) (h2 : c < 18446744073709551616) (hc : c' < 18446744073709551616) (e : stp h c = stp h c') : c = c' := by
  have b1 : h ^^^ c < 2 ^ 64 := Nat.xor_lt_two_pow (by omega) (by omega)
  have b2 : h ^^^ c' < 2 ^ 64 := Nat.xor_lt_two_pow (by omega) (by omega)
  rw [stp_def, stp_def] at e
  have := mul_inj (by omega) (by omega) e
  have k := congrArg (h ^^^ ·) this
  simpa [← Nat.xor_assoc] using k
def Bytes (l : List Nat) : Prop := ∀ c ∈ l, c < 256
theorem dgF_inj : ∀ (l : List Nat), Bytes l → ∀ {h h' : Nat}, h < 18446744073709551616 → h' < 18446744073709551616 → dgF h l = dgF h' l → h = h'
  | [], _, _, _, _, _, e => e
  | c :: l, hb, h, h', h1, h2, e => stp_inj h1 h2 (by have := hb c (by simp); omega) (dgF_inj l (fun x hx => hb x (by simp [hx])) (stp_lt _ _) (stp_lt _ _) e)
theorem dig_behind {x y z : List Nat} (hz : Bytes z) : dig (x ++ z) = dig (y ++ z) ↔ dig x = dig y := by
  rw [dig_app, dig_app]
  exact ⟨fun h => dgF_inj z hz (dig_lt _) (dig_lt _) h, fun h => by rw [h]⟩
theorem dig_one {a b : List Nat} {c c' : Nat} (hb : Bytes b) (hc : c < 256) (hc' : c' < 256) (h : dig (a ++ c :: b) = dig (a ++ c' :: b)) : c = c' := by
  rw [dig_app, dig_app] at h
  have := dgF_inj b hb (stp_lt _ _) (stp_lt _ _) h
  exact stp_inj2 (dig_lt _) (by omega) (by omega) this
theorem dig_set {l : List Nat} (hl : Bytes l) {k : Nat} (hk : k < l.length) {c : Nat} (hc : c < 256) (hn : c ≠ l[k]) : dig (l.set k c) ≠ dig l := by
  intro h
  have e1 : l = l.take k ++ l[k] :: l.drop (k + 1) := by rw [List.getElem_cons_drop, List.take_append_drop]
  have e2 : l.set k c = l.take k ++ c :: l.drop (k + 1) := by rw [List.set_eq_take_append_cons_drop, if_pos hk]
  rw [e2] at h
  have h2 : dig (l.take k ++ c :: l.drop (k + 1)) = dig (l.take k ++ l[k] :: l.drop (k + 1)) := by rw [h, ← e1]
  exact hn (dig_one (fun x hx => hl x (List.mem_of_mem_drop hx)) hc (hl _ (List.getElem_mem hk)) h2)

/-! ### Nodes -/
def by8 (n : Nat) : List Nat := [n / 72057594037927936 % 256, n / 281474976710656 % 256, n / 1099511627776 % 256, n / 4294967296 % 256, n / 16777216 % 256, n / 65536 % 256, n / 256 % 256, n % 256]
theorem by8_len (n : Nat) : (by8 n).length = 8 := rfl
theorem by8_bytes (n : Nat) : Bytes (by8 n) := by
  intro c hc
  simp only [by8, List.mem_cons, List.not_mem_nil, or_false] at hc
  omega
theorem by8_inj {a b : Nat} (ha : a < 18446744073709551616) (hb : b < 18446744073709551616) (h : by8 a = by8 b) : a = b := by
  simp only [by8, List.cons.injEq, and_true] at h
  omega
def lfB (n : Nat) : List Nat := 0 :: by8 n
def prB (a b : Nat) : List Nat := 1 :: (by8 a ++ by8 b)
noncomputable def lfN (n : Nat) : Nat := dig (lfB n)
noncomputable def prN (a b : Nat) : Nat := dig (prB a b)
theorem lfN_lt (n : Nat) : lfN n < 18446744073709551616 := dig_lt _
theorem prN_lt (a b : Nat) : prN a b < 18446744073709551616 := dig_lt _
theorem lfB_inj {a b : Nat} (ha : a < 18446744073709551616) (hb : b < 18446744073709551616) (h : lfB a = lfB b) : a = b := by
  unfold lfB at h; exact by8_inj ha hb (List.cons.inj h).2
theorem prB_inj {a b c d : Nat} (ha : a < 18446744073709551616) (hb : b < 18446744073709551616) (hc : c < 18446744073709551616) (hd : d < 18446744073709551616) (h : prB a b = prB c d) : a = c ∧ b = d := by
  unfold prB at h
  obtain ⟨h1, h2⟩ := List.append_inj (List.cons.inj h).2 rfl
  exact ⟨by8_inj ha hc h1, by8_inj hb hd h2⟩

/-! ### Levels -/
def U64s (l : List Nat) : Prop := ∀ x ∈ l, x < 18446744073709551616
noncomputable def upL : List Nat → List Nat
  | a :: b :: l => prN a b :: upL l
  | [a] => [a]
  | [] => []
theorem upL_len : ∀ l : List Nat, (upL l).length = (l.length + 1) / 2
  | a :: b :: l => by rw [upL, List.length_cons, upL_len l, List.length_cons, List.length_cons]; omega
  | [a] => by simp [upL]
  | [] => by simp [upL]
theorem upL_u64 : ∀ l : List Nat, U64s l → U64s (upL l)
  | a :: b :: l, h => by
    intro x hx
    rw [upL] at hx
    rcases List.mem_cons.1 hx with rfl | hx
    · exact prN_lt _ _
    · exact upL_u64 l (fun y hy => h y (by simp [hy])) x hx
  | [a], h => h
  | [], h => h
/-- What the level above has at a place. -/
noncomputable def upAt (l : List Nat) (j : Nat) : Nat := if 2 * j + 1 < l.length then prN (l[2 * j]?.getD 0) (l[2 * j + 1]?.getD 0) else l[2 * j]?.getD 0
theorem upL_at : ∀ (l : List Nat) (j : Nat), j < (l.length + 1) / 2 → (upL l)[j]? = some (upAt l j)
  | a :: b :: l, 0, _ => by rw [upL]; unfold upAt; rw [if_pos (by simp)]; simp
  | a :: b :: l, j + 1, h => by
    rw [upL, List.getElem?_cons_succ, upL_at l j (by simp only [List.length_cons] at h; omega)]
    unfold upAt
    rw [show 2 * (j + 1) = 2 * j + 1 + 1 by omega]
    simp only [List.getElem?_cons_succ, List.length_cons]
    by_cases h2 : 2 * j + 1 < l.length
    · rw [if_pos h2, if_pos (by omega)]
    · rw [if_neg h2, if_neg (by omega)]
  | [a], 0, _ => by simp [upL, upAt]
  | [a], j + 1, h => by simp only [List.length_cons, List.length_nil] at h; omega
  | [], j, h => by simp only [List.length_nil] at h; omega
theorem upL_app : ∀ (a b : List Nat), a.length % 2 = 0 → upL (a ++ b) = upL a ++ upL b
  | x :: y :: a, b, h => by rw [List.cons_append, List.cons_append, upL, upL, upL_app a b (by simp only [List.length_cons] at h; omega)]; rfl
  | [x], _, h => by simp at h
  | [], _, _ => rfl
theorem upL_short {l : List Nat} (h : l.length ≤ 1) : upL l = l := by
  rcases l with _ | ⟨a, _ | ⟨b, l⟩⟩
  · rfl
  · rfl
  · simp at h

noncomputable def rtV (l : List Nat) : Nat := if h : l.length ≤ 1 then l[0]?.getD 0 else rtV (upL l)
termination_by l.length
decreasing_by rw [upL_len]; omega
theorem rtV_short {l : List Nat} (h : l.length ≤ 1) : rtV l = l[0]?.getD 0 := by rw [rtV, dif_pos h]
theorem rtV_up {l : List Nat} : rtV (upL l) = rtV l := by
  by_cases h : l.length ≤ 1
  · rw [upL_short h]
  · rw [rtV.eq_1 l, dif_neg h]
theorem rtV_lt (l : List Nat) (h : U64s l) : rtV l < 18446744073709551616 := by
  by_cases hl : l.length ≤ 1
  · rw [rtV_short hl]
    rcases l with _ | ⟨a, l⟩
    · simp
    · exact h a (by simp)
  · rw [← rtV_up]; exact rtV_lt (upL l) (upL_u64 l h)
termination_by l.length
decreasing_by rw [upL_len]; omega
theorem rtV_join : ∀ (k : Nat) (a b : List Nat), a.length = 2 ^ k → 1 ≤ b.length → b.length ≤ 2 ^ k → rtV (a ++ b) = prN (rtV a) (rtV b)
  | 0, a, b, h1, h2, h3 => by
    rcases a with _ | ⟨x, _ | ⟨x', a⟩⟩
    · simp at h1
    · rcases b with _ | ⟨y, _ | ⟨y', b⟩⟩
      · simp at h2
      · rw [← rtV_up]; rw [rtV_short (by simp [upL]), rtV_short (by simp), rtV_short (by simp)]; simp [upL]
      · simp at h3
    · simp at h1
  | k + 1, a, b, h1, h2, h3 => by
    have e : 2 ^ (k + 1) = 2 * 2 ^ k := by rw [Nat.pow_succ]; omega
    rw [← rtV_up, ← rtV_up (l := a), ← rtV_up (l := b), upL_app a b (by omega)]
    exact rtV_join k _ _ (by rw [upL_len]; omega) (by rw [upL_len]; omega) (by rw [upL_len]; omega)

/-! ### Paths -/
/-- What is beside the way on a level. -/
noncomputable def bes (l : List Nat) (i : Nat) : List Nat := if i % 2 = 1 then [l[i - 1]?.getD 0] else if i + 1 < l.length then [l[i + 1]?.getD 0] else []
noncomputable def ptV (l : List Nat) (i : Nat) : List Nat := if _h : l.length ≤ 1 then [] else bes l i ++ ptV (upL l) (i / 2)
termination_by l.length
decreasing_by rw [upL_len]; omega
theorem ptV_short {l : List Nat} {i : Nat} (h : l.length ≤ 1) : ptV l i = [] := by rw [ptV, dif_pos h]
theorem ptV_long {l : List Nat} {i : Nat} (h : ¬ l.length ≤ 1) : ptV l i = bes l i ++ ptV (upL l) (i / 2) := by rw [ptV, dif_neg h]
theorem bes_u64 {l : List Nat} (h : U64s l) (i : Nat) : U64s (bes l i) := by
  have g : ∀ j : Nat, l[j]?.getD 0 < 18446744073709551616 := fun j => by
    rcases hj : l[j]? with _ | x
    · simp
    · exact h x (List.mem_of_getElem? hj)
  intro x hx
  unfold bes at hx
  split at hx
  · rw [List.mem_singleton.1 hx]; exact g _
  · split at hx
    · rw [List.mem_singleton.1 hx]; exact g _
    · cases hx
theorem ptV_u64 (l : List Nat) (i : Nat) (h : U64s l) : U64s (ptV l i) := by
  by_cases hl : l.length ≤ 1
  · rw [ptV_short hl]; intro x hx; cases hx
  · rw [ptV_long hl]
    intro x hx
    rcases List.mem_append.1 hx with hx | hx
    · exact bes_u64 h i x hx
    · exact ptV_u64 (upL l) (i / 2) (upL_u64 l h) x hx
termination_by l.length
decreasing_by rw [upL_len]; omega

/-- How many nodes are beside the way. -/
def cnt (i n : Nat) : Nat := if _h : n ≤ 1 then 0 else (if i % 2 = 1 ∨ i + 1 < n then 1 else 0) + cnt (i / 2) ((n + 1) / 2)
termination_by n
theorem cnt_short {i n : Nat} (h : n ≤ 1) : cnt i n = 0 := by rw [cnt, dif_pos h]
theorem cnt_long {i n : Nat} (h : ¬ n ≤ 1) : cnt i n = (if i % 2 = 1 ∨ i + 1 < n then 1 else 0) + cnt (i / 2) ((n + 1) / 2) := by rw [cnt, dif_neg h]
theorem cnt_le : ∀ (k i n : Nat), n ≤ 2 ^ k → cnt i n ≤ k
  | 0, i, n, h => by rw [cnt_short (by simpa using h)]; omega
  | k + 1, i, n, h => by
    by_cases hn : n ≤ 1
    · rw [cnt_short hn]; omega
    · rw [cnt_long hn]
      have e : 2 ^ (k + 1) = 2 * 2 ^ k := by rw [Nat.pow_succ]; omega
      have := cnt_le k (i / 2) ((n + 1) / 2) (by omega)
      split <;> omega
theorem ptV_cnt (l : List Nat) (i : Nat) : (ptV l i).length = cnt i l.length := by
  by_cases hl : l.length ≤ 1
  · rw [ptV_short hl, cnt_short hl]; rfl
  · rw [ptV_long hl, cnt_long hl, List.length_append, ptV_cnt (upL l) (i / 2), upL_len]
    congr 1
    unfold bes
    by_cases h1 : i % 2 = 1
    · rw [if_pos h1, if_pos (.inl h1)]; rfl
    · rw [if_neg h1]
      by_cases h2 : i + 1 < l.length
      · rw [if_pos h2, if_pos (.inr h2)]; rfl
      · rw [if_neg h2, if_neg (by omega)]; rfl
termination_by l.length
decreasing_by rw [upL_len]; omega

/-- Where a way ends. -/
noncomputable def ckV (at' i n : Nat) (p : List Nat) : Option Nat :=
  if _h : n ≤ 1 then (if p = [] then some at' else none)
  else if i % 2 = 1 then (match p with | [] => none | x :: r => ckV (prN x at') (i / 2) ((n + 1) / 2) r)
  else if i + 1 < n then (match p with | [] => none | x :: r => ckV (prN at' x) (i / 2) ((n + 1) / 2) r)
  else ckV at' (i / 2) ((n + 1) / 2) p
termination_by n
theorem ckV_short {a i n : Nat} {p : List Nat} (h : n ≤ 1) : ckV a i n p = if p = [] then some a else none := by rw [ckV.eq_def, dif_pos h]
theorem ckV_none {a i n : Nat} (h : ¬ n ≤ 1) (hb : i % 2 = 1 ∨ i + 1 < n) : ckV a i n [] = none := by
  rw [ckV.eq_def, dif_neg h]
  by_cases h1 : i % 2 = 1
  · rw [if_pos h1]
  · rw [if_neg h1, if_pos (hb.resolve_left h1)]
theorem ckV_left {a i n x : Nat} {r : List Nat} (h : ¬ n ≤ 1) (h1 : i % 2 = 1) : ckV a i n (x :: r) = ckV (prN x a) (i / 2) ((n + 1) / 2) r := by rw [ckV.eq_def, dif_neg h, if_pos h1]
theorem ckV_right {a i n x : Nat} {r : List Nat} (h1 : ¬ i % 2 = 1) (h2 : i + 1 < n) : ckV a i n (x :: r) = ckV (prN a x) (i / 2) ((n + 1) / 2) r := by rw [ckV.eq_def, dif_neg (by omega), if_neg h1, if_pos h2]
theorem ckV_skip {a i n : Nat} {p : List Nat} (h : ¬ n ≤ 1) (h1 : ¬ i % 2 = 1) (h2 : ¬ i + 1 < n) : ckV a i n p = ckV a (i / 2) ((n + 1) / 2) p := by rw [ckV.eq_def, dif_neg h, if_neg h1, if_neg h2]
theorem ckV_cnt (a i n : Nat) (p : List Nat) (r : Nat) (h : ckV a i n p = some r) : p.length = cnt i n := by
  by_cases hn : n ≤ 1
  · rw [ckV_short hn] at h
    rw [cnt_short hn]
    split at h
    · rename_i e; rw [e]; rfl
    · cases h
  · rw [cnt_long hn]
    by_cases h1 : i % 2 = 1
    · rcases p with _ | ⟨x, p⟩
      · rw [ckV_none hn (.inl h1)] at h; cases h
      · rw [ckV_left hn h1] at h
        have := ckV_cnt _ _ _ _ _ h
        rw [if_pos (.inl h1), List.length_cons, this]; omega
    · by_cases h2 : i + 1 < n
      · rcases p with _ | ⟨x, p⟩
        · rw [ckV_none hn (.inr h2)] at h; cases h
        · rw [ckV_right h1 h2] at h
          have := ckV_cnt _ _ _ _ _ h
          rw [if_pos (.inr h2), List.length_cons, this]; omega
      · rw [ckV_skip hn h1 h2] at h
        have := ckV_cnt _ _ _ _ _ h
        rw [if_neg (by omega), this]; omega
termination_by n
theorem ckV_path (l : List Nat) (i : Nat) (hi : i < l.length) : ckV l[i] i l.length (ptV l i) = some (rtV l) := by
  by_cases hl : l.length ≤ 1
  · rw [ckV_short hl, ptV_short hl, rtV_short hl, if_pos rfl]
    obtain rfl : i = 0 := by omega
    rw [List.getElem?_eq_getElem hi]; rfl
  · have hi2 : i / 2 < (l.length + 1) / 2 := by omega
    have hu := upL_at l (i / 2) hi2
    have hi3 : i / 2 < (upL l).length := by rw [upL_len]; exact hi2
    rw [List.getElem?_eq_getElem hi3] at hu
    have ih := ckV_path (upL l) (i / 2) hi3
    rw [Option.some.inj hu, upL_len, rtV_up] at ih
    rw [ptV_long hl, ← ih]
    unfold bes upAt
    by_cases h1 : i % 2 = 1
    · rw [if_pos h1, if_pos (by omega), List.singleton_append, ckV_left hl h1, show 2 * (i / 2) = i - 1 by omega, show i - 1 + 1 = i by omega, List.getElem?_eq_getElem hi]; rfl
    · rw [if_neg h1, show 2 * (i / 2) = i by omega, List.getElem?_eq_getElem hi]
      by_cases h2 : i + 1 < l.length
      · rw [if_pos h2, if_pos h2, List.singleton_append, ckV_right h1 h2]; rfl
      · rw [if_neg h2, if_neg h2, List.nil_append, ckV_skip hl h1 h2]; rfl
termination_by l.length
decreasing_by rw [upL_len]; omega

/-! ### Two ways that end at the same node -/
/-- Somewhere on two ways two strings of bytes have the same digest: from the nodes x and y upwards. -/
noncomputable def clR (x y i n : Nat) (p q : List Nat) : Bool :=
  if _h : n ≤ 1 then false
  else if i % 2 = 1 then
    match p, q with
    | a :: p, b :: q => (decide (prB a x ≠ prB b y) && decide (prN a x = prN b y)) || clR (prN a x) (prN b y) (i / 2) ((n + 1) / 2) p q
    | _, _ => false
  else if i + 1 < n then
    match p, q with
    | a :: p, b :: q => (decide (prB x a ≠ prB y b) && decide (prN x a = prN y b)) || clR (prN x a) (prN y b) (i / 2) ((n + 1) / 2) p q
    | _, _ => false
  else clR x y (i / 2) ((n + 1) / 2) p q
termination_by n
theorem clR_short {x y i n : Nat} {p q : List Nat} (h : n ≤ 1) : clR x y i n p q = false := by rw [clR.eq_def, dif_pos h]
theorem clR_left {x y i n a b : Nat} {p q : List Nat} (h : ¬ n ≤ 1) (h1 : i % 2 = 1) : clR x y i n (a :: p) (b :: q) = ((decide (prB a x ≠ prB b y) && decide (prN a x = prN b y)) || clR (prN a x) (prN b y) (i / 2) ((n + 1) / 2) p q) := by rw [clR.eq_def, dif_neg h, if_pos h1]
theorem clR_right {x y i n a b : Nat} {p q : List Nat} (h1 : ¬ i % 2 = 1) (h2 : i + 1 < n) : clR x y i n (a :: p) (b :: q) = ((decide (prB x a ≠ prB y b) && decide (prN x a = prN y b)) || clR (prN x a) (prN y b) (i / 2) ((n + 1) / 2) p q) := by rw [clR.eq_def, dif_neg (by omega), if_neg h1, if_pos h2]
theorem clR_skip {x y i n : Nat} {p q : List Nat} (h : ¬ n ≤ 1) (h1 : ¬ i % 2 = 1) (h2 : ¬ i + 1 < n) : clR x y i n p q = clR x y (i / 2) ((n + 1) / 2) p q := by rw [clR.eq_def, dif_neg h, if_neg h1, if_neg h2]
theorem clR_end {x y i n : Nat} {p q : List Nat} (h : p = [] ∨ q = []) : clR x y i n p q = false := by
  by_cases hn : n ≤ 1
  · exact clR_short hn
  · by_cases h1 : i % 2 = 1
    · rw [clR.eq_def, dif_neg hn, if_pos h1]
      rcases h with rfl | rfl
      · rfl
      · cases p <;> rfl
    · by_cases h2 : i + 1 < n
      · rw [clR.eq_def, dif_neg hn, if_neg h1, if_pos h2]
        rcases h with rfl | rfl
        · rfl
        · cases p <;> rfl
      · rw [clR_skip hn h1 h2]; exact clR_end h
termination_by n
noncomputable def clV (a b i n : Nat) (p q : List Nat) : Bool := (decide (lfB a ≠ lfB b) && decide (lfN a = lfN b)) || clR (lfN a) (lfN b) i n p q
theorem clR_ends (x y i n : Nat) (p q : List Nat) (r : Nat) (hx : x < 18446744073709551616) (hy : y < 18446744073709551616) (hp : U64s p) (hq : U64s q)
    (hc : clR x y i n p q = false) (h1 : ckV x i n p = some r) (h2 : ckV y i n q = some r) : x = y ∧ p = q := by
  by_cases hn : n ≤ 1
  · rw [ckV_short hn] at h1 h2
    by_cases e1 : p = []
    · by_cases e2 : q = []
      · rw [if_pos e1] at h1; rw [if_pos e2] at h2
        exact ⟨by rw [← h2] at h1; exact Option.some.inj h1, by rw [e1, e2]⟩
      · rw [if_neg e2] at h2; cases h2
    · rw [if_neg e1] at h1; cases h1
  · by_cases hl : i % 2 = 1
    · rcases p with _ | ⟨a, p⟩
      · rw [ckV_none hn (.inl hl)] at h1; cases h1
      rcases q with _ | ⟨b, q⟩
      · rw [ckV_none hn (.inl hl)] at h2; cases h2
      rw [ckV_left hn hl] at h1 h2
      rw [clR_left hn hl, Bool.or_eq_false_iff] at hc
      obtain ⟨e1, e2⟩ := clR_ends _ _ _ _ _ _ r (prN_lt _ _) (prN_lt _ _) (fun z hz => hp z (by simp [hz])) (fun z hz => hq z (by simp [hz])) hc.2 h1 h2
      have e3 : prB a x = prB b y := by
        have := hc.1
        rw [decide_eq_true e1, Bool.and_true] at this
        exact Decidable.of_not_not (of_decide_eq_false this)
      obtain ⟨e4, e5⟩ := prB_inj (hp a (by simp)) hx (hq b (by simp)) hy e3
      exact ⟨e5, by rw [e4, e2]⟩
    · by_cases hr : i + 1 < n
      · rcases p with _ | ⟨a, p⟩
        · rw [ckV_none hn (.inr hr)] at h1; cases h1
        rcases q with _ | ⟨b, q⟩
        · rw [ckV_none hn (.inr hr)] at h2; cases h2
        rw [ckV_right hl hr] at h1 h2
        rw [clR_right hl hr, Bool.or_eq_false_iff] at hc
        obtain ⟨e1, e2⟩ := clR_ends _ _ _ _ _ _ r (prN_lt _ _) (prN_lt _ _) (fun z hz => hp z (by simp [hz])) (fun z hz => hq z (by simp [hz])) hc.2 h1 h2
        have e3 : prB x a = prB y b := by
          have := hc.1
          rw [decide_eq_true e1, Bool.and_true] at this
          exact Decidable.of_not_not (of_decide_eq_false this)
        obtain ⟨e4, e5⟩ := prB_inj hx (hp a (by simp)) hy (hq b (by simp)) e3
        exact ⟨e4, by rw [e5, e2]⟩
      · rw [ckV_skip hn hl hr] at h1 h2
        rw [clR_skip hn hl hr] at hc
        exact clR_ends _ _ _ _ _ _ r hx hy hp hq hc h1 h2
termination_by n
theorem clV_ends {a b i n : Nat} {p q : List Nat} {r : Nat} (ha : a < 18446744073709551616) (hb : b < 18446744073709551616) (hp : U64s p) (hq : U64s q)
    (hc : clV a b i n p q = false) (h1 : ckV (lfN a) i n p = some r) (h2 : ckV (lfN b) i n q = some r) : a = b ∧ p = q := by
  unfold clV at hc
  rw [Bool.or_eq_false_iff] at hc
  obtain ⟨e1, e2⟩ := clR_ends _ _ _ _ _ _ r (lfN_lt _) (lfN_lt _) hp hq hc.2 h1 h2
  refine ⟨?_, e2⟩
  have := hc.1
  rw [decide_eq_true e1, Bool.and_true] at this
  exact lfB_inj ha hb (Decidable.of_not_not (of_decide_eq_false this))

/-! ### The whole -/
noncomputable def lv (l : List Nat) : List Nat := l.map lfN
theorem lv_u64 (l : List Nat) : U64s (lv l) := by
  intro x hx
  obtain ⟨y, _, rfl⟩ := List.mem_map.1 hx
  exact lfN_lt _
noncomputable def rt (l : List Nat) : Nat := rtV (lv l)
noncomputable def pt (l : List Nat) (i : Nat) : List Nat := ptV (lv l) i
/-- What Check answers. -/
noncomputable def ck (r a : Nat) (i n : Int) (p : List Nat) : Bool := decide (1 ≤ n) && decide (n ≤ 1024) && decide (0 ≤ i) && decide (i < n) && decide (ckV (lfN a) i.toNat n.toNat p = some r)
theorem rt_lt (l : List Nat) : rt l < 18446744073709551616 := rtV_lt _ (lv_u64 l)
theorem pt_u64 (l : List Nat) (i : Nat) : U64s (pt l i) := ptV_u64 _ _ (lv_u64 l)
theorem pt_len (l : List Nat) (i : Nat) : (pt l i).length = cnt i l.length := by unfold pt; rw [ptV_cnt]; simp [lv]
theorem pt_le (l : List Nat) (i : Nat) (h : l.length ≤ 1024) : (pt l i).length ≤ 10 := by rw [pt_len]; exact cnt_le 10 _ _ h
theorem ck_path {l : List Nat} {i : Nat} (hi : i < l.length) : ckV (lfN l[i]) i l.length (pt l i) = some (rt l) := by
  have h := ckV_path (lv l) i (by simpa [lv] using hi)
  simpa [lv, pt, rt] using h
theorem rt_one (x : Nat) : rt [x] = lfN x := by unfold rt; rw [rtV_short (by simp [lv])]; rfl
theorem rt_join {l : List Nat} {k : Nat} (h1 : 2 ^ k < l.length) (h2 : l.length ≤ 2 * 2 ^ k) : rt l = prN (rt (l.take (2 ^ k))) (rt (l.drop (2 ^ k))) := by
  have e : lv l = lv (l.take (2 ^ k)) ++ lv (l.drop (2 ^ k)) := by unfold lv; rw [← List.map_append, List.take_append_drop]
  unfold rt
  rw [e]
  exact rtV_join k _ _ (by simp [lv]; omega) (by simp [lv]; omega) (by simp [lv]; omega)
theorem ck_yes {l : List Nat} {i : Nat} (hi : i < l.length) (hl : l.length ≤ 1024) : ck (rt l) l[i] i l.length (pt l i) = true := by
  unfold ck
  simp only [Bool.and_eq_true, decide_eq_true_eq]
  refine ⟨⟨⟨⟨by omega, by omega⟩, by omega⟩, by omega⟩, ?_⟩
  rw [Int.toNat_natCast, Int.toNat_natCast]
  exact ck_path hi
theorem ck_len {r a : Nat} {i n : Nat} {p : List Nat} (h : p.length ≠ cnt i n) : ck r a i n p = false := by
  cases hc : ck r a i n p with
  | false => rfl
  | true =>
    unfold ck at hc
    simp only [Bool.and_eq_true, decide_eq_true_eq, Int.toNat_natCast] at hc
    exact absurd (ckV_cnt _ _ _ _ _ hc.2) h
theorem ck_out {r a : Nat} {i n : Int} {p : List Nat} (h : n < 1 ∨ 1024 < n ∨ i < 0 ∨ n ≤ i) : ck r a i n p = false := by
  cases hc : ck r a i n p with
  | false => rfl
  | true =>
    unfold ck at hc
    simp only [Bool.and_eq_true, decide_eq_true_eq] at hc
    omega
theorem ck_binds {l : List Nat} {i a : Nat} {p : List Nat} (hL : U64s l) (ha : a < 18446744073709551616) (hp : U64s p) (hi : i < l.length) (h : ck (rt l) a i l.length p = true) :
    p.length = (pt l i).length ∧ ((a = l[i] ∧ p = pt l i) ∨ clV a l[i] i l.length p (pt l i) = true) := by
  unfold ck at h
  simp only [Bool.and_eq_true, decide_eq_true_eq, Int.toNat_natCast] at h
  refine ⟨by rw [ckV_cnt _ _ _ _ _ h.2, pt_len], ?_⟩
  cases hc : clV a l[i] i l.length p (pt l i) with
  | true => exact .inr rfl
  | false => exact .inl (clV_ends ha (hL _ (List.getElem_mem hi)) hp (pt_u64 _ _) hc h.2 (ck_path hi))
end Dg
end Go.Proofs.YtidhhndclkilnaaDoor
