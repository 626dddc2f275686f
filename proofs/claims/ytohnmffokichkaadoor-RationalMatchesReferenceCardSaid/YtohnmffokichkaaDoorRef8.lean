/-
  Contract of the reference implementation's Parse.
-/
import Derived.Test.YtohnmffokichkaaDoorRef7
namespace Go.Proofs.YtohnmffokichkaaDoor
open Go.RowKit

theorem numIs_any (x : ByteArray) (h : x.size ≤ 281474976710656) : NumIs x (numR x.data.toList).1 (numR x.data.toList).2 := fun w => number_any x w (by omega)
theorem numIs_list (x : ByteArray) (l : List UInt8) (e : x = bs l) (h : l.length ≤ 281474976710656) : NumIs x (numR l).1 (numR l).2 := by
  have k : x.data.toList = l := by rw [e]; simp [bs]
  have := numIs_any x (by rw [e, bs_size]; exact h)
  rw [k] at this
  exact this
theorem slash_or : ∀ t : List UInt8, (∀ c ∈ t, c ≠ 47) ∨ ∃ x y, t = x ++ 47 :: y ∧ ∀ c ∈ x, c ≠ 47
  | [] => Or.inl (by simp)
  | c :: t => by
    by_cases hc : c = 47
    · exact Or.inr ⟨[], t, by rw [hc]; rfl, by simp⟩
    · rcases slash_or t with h | ⟨x, y, rfl, h⟩
      · exact Or.inl (fun d hd => (List.mem_cons.1 hd).elim (fun e => e ▸ hc) (h d))
      · exact Or.inr ⟨c :: x, y, rfl, fun d hd => (List.mem_cons.1 hd).elim (fun e => e ▸ hc) (h d)⟩
theorem at_list (T : ByteArray) (k : Nat) (h : k < T.size) : T.data.toList[k]? = some T[k] := by
  rw [List.getElem?_eq_getElem (by simpa using h)]; rfl
theorem no_slash {T : ByteArray} {x y : List UInt8} (he : T.data.toList = x ++ y) (hx : ∀ c ∈ x, c ≠ 47) (k : Nat) (h : k < T.size) (hk : k < x.length) : ((T[k].toNat : Int) != 47) = true := by
  have e := at_list T k h
  rw [he, List.getElem?_append_left hk] at e
  have hn := hx _ (List.mem_of_getElem? e)
  have : T[k].toNat ≠ 47 := fun hq => hn (UInt8.toNat_inj.1 hq)
  simp; omega
theorem a_slash {T : ByteArray} {x y : List UInt8} (he : T.data.toList = x ++ 47 :: y) (h : x.length < T.size) : ((T[x.length].toNat : Int) != 47) = false := by
  have e := at_list T x.length h
  rw [he, List.getElem?_append_right (Nat.le_refl _)] at e
  simp at e
  rw [← e]; rfl

theorem rparse_any (s : ByteArray) (w : World) (hs : s.size ≤ 281474976710656) :
    Calls Tryd.prog 29 #[.string s] w fun e w' => e = .returned (.tuple #[.agg #[.int .i64 (parR s).1, .int .i64 (parR s).2.1], .int .i64 (parR s).2.2]) ∧ Below w.heap.size w w' := by
  have hlen : s.data.toList.length = s.size := by simp
  cases hl : s.data.toList with
  | nil =>
    have e : s = ⟨#[]⟩ := by apply ByteArray.ext; apply Array.ext'; rw [hl]
    have hr := par_00 (s := s) (by rw [hl]; intro c r h; cases h) (by rw [hl]; simp)
    have hn : numR [] = (0, false) := by unfold numR; rw [if_pos (by simp)]
    rw [hl, hn] at hr
    have hr2 : parR s = (0, 0, 8) := hr
    rw [hr2, e]
    exact rp_e w (numIs_list _ [] rfl (by simp) |> fun h => by rw [hn] at h; exact h)
  | cons c t =>
    have h0 : 0 < s.size := by rw [← hlen, hl]; simp
    have hc : s[0] = c := by
      have := at_list s 0 h0
      rw [hl] at this; simpa using this.symm
    by_cases hm : c = 45
    · subst hm
      have hm : ((s[0].toNat : Int) == 45) = true := by rw [hc]; rfl
      have hT : s.extract 1 s.size = bs t := by rw [ext_drop, hl]; rfl
      have hTl : (bs t).data.toList = t := by simp [bs]
      have hTs : (bs t).size = t.length := bs_size t
      have htl : t.length ≤ 281474976710656 := by rw [hl] at hlen; simp at hlen; omega
      rcases slash_or t with hn | ⟨x, y, rfl, hx⟩
      · have hN := numIs_list (bs t) t rfl htl
        exact rp_10 s w (numR t).1 (numR t).2 _ (bs t) hT (by omega) hs h0 hm (fun k h hk => no_slash (y := []) (by rw [hTl]; simp) hn k h (by omega)) hN (num_bounds t).1 (num_bounds t).2 (par_10 hl hn)
      · have hxl : x.length < (bs (x ++ 47 :: y)).size := by rw [bs_size]; simp
        have e1 : (bs (x ++ 47 :: y)).extract 0 x.length = bs x := by rw [ext_take, hTl]; simp
        have e2 : (bs (x ++ 47 :: y)).extract (x.length + 1) (bs (x ++ 47 :: y)).size = bs y := by rw [ext_drop, hTl]; simp
        simp only [List.length_append, List.length_cons] at htl
        exact rp_11 s w (numR x).1 (numR x).2 _ (bs (x ++ 47 :: y)) hT (by rw [bs_size]; simp; omega) (numR y).1 (numR y).2 x.length hs h0 hm hxl (a_slash hTl hxl)
          (fun k h hk => no_slash hTl hx k h hk) (numIs_list _ x e1 (by omega)) (num_bounds x).1 (num_bounds x).2 (numIs_list _ y e2 (by omega)) (num_bounds y).1 (num_bounds y).2 (par_11 hl hx)
    · have hq : c.toNat ≠ 45 := fun h => hm (UInt8.toNat_inj.1 h)
      have hmb : ((s[0].toNat : Int) == 45) = false := by rw [hc]; simp; omega
      have hh : ∀ d r, s.data.toList = d :: r → d ≠ 45 := by
        intro d r h; rw [hl] at h; injection h with h1 _; rw [← h1]; exact hm
      rw [← hl] at *
      rcases slash_or s.data.toList with hn | ⟨x, y, he, hx⟩
      · exact rp_00 s w _ _ _ hs h0 hmb (fun k h _ => no_slash (y := []) (by simp) hn k h (by omega)) (numIs_any s hs) (num_bounds _).1 (num_bounds _).2 (par_00 hh hn)
      · have hxy : x.length + (y.length + 1) = s.size := by rw [he] at hlen; simpa using hlen
        have hxl : x.length < s.size := by omega
        have e1 : s.extract 0 x.length = bs x := by rw [ext_take, he]; simp
        have e2 : s.extract (x.length + 1) s.size = bs y := by rw [ext_drop, he]; simp
        exact rp_01 s w (numR x).1 (numR x).2 _ (numR y).1 (numR y).2 x.length hs h0 hmb hxl (a_slash he hxl)
          (fun k h hk => no_slash he hx k h hk) (numIs_list _ x e1 (by omega)) (num_bounds x).1 (num_bounds x).2 (numIs_list _ y e2 (by omega)) (num_bounds y).1 (num_bounds y).2 (par_01 hh he hx)
end Go.Proofs.YtohnmffokichkaaDoor
