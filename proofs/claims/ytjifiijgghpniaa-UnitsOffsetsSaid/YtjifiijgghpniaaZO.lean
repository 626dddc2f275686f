/-
  ZO: several texts in one.
-/
import Derived.Test.YtjifiijgghpniaaZN
import Derived.Test.YtjifiijgghpniaaZG
/-
  Contract of the laws on units: shifted.
-/
namespace Go.Proofs.Ytjifiijgghpniaa
open Go.RowKit Un MapKept

/-- A place that is moved. -/
def shW (d pl : Int) : Int := IntKind.i64.wrap (pl + d)
theorem store_i (w : World) (b o : Nat) (n : Int) (v : Value) (h : w.cell? ⟨b, o, none⟩ = some v) (hf : w.frozen? ⟨b, o, none⟩ = false) : (Instr.storeAt 3 (.pointer (some ⟨b, o, none⟩)) (.int .i64 n)).run Try.prog w = .ok () (w.setCell ⟨b, o, none⟩ (.int .i64 n)) := by
  have ht : w.there b o (#[.int .i64 n] : Array Value).size := fun j hj => by
    have : j = 0 := by simp at hj; omega
    subst this
    exact ⟨Option.isSome_iff_exists.2 ⟨_, h⟩, hf⟩
  go_simp
theorem slice_nodeL (l : List Value) (hl : l.length = 10) (w : World) : (Instr.buildSlice 30 1 #[(0, .agg l.toArray)]).run Try.prog w = .ok (.slice (some ⟨w.heap.size, 0, none⟩) 1 1) (w.alloc (.cells l.toArray 32)) := by
  obtain ⟨v0, v1, v2, v3, v4, v5, v6, v7, v8, v9, rfl⟩ := list10 hl
  kernel_rfl
theorem okNode_len {t : Nd} (h : okNode vld t = true) : t.ks.length ≤ 3 := by
  cases t with
  | mk op pl nm n d u ks =>
    simp only [okNode, Bool.and_eq_true, decide_eq_true_eq] at h
    have := h.1
    simp only [Nd.ks]
    unfold arity at this
    split at this
    · omega
    · split at this
      · omega
      · split at this
        · omega
        · split at this <;> omega
theorem shifts_get (W : Int → Int) : ∀ (ks : List Nd) (i : Nat) (h : i < ks.length) (h' : i < (shifts W ks).length), (shifts W ks)[i] = shift W ks[i]
  | [], i, h, _ => absurd h (Nat.not_lt_zero _)
  | k :: ks, 0, _, _ => rfl
  | k :: ks, i + 1, h, h' => by
    simp only [shifts, List.getElem_cons_succ]
    exact shifts_get W ks i (by simpa using h) (by simpa [shifts] using h')
mutual
theorem nin_shift (W : Int → Int) : ∀ (t : Nd), nin t → nin (shift W t)
  | .mk op pl nm n d u ks, h => by
    simp only [nin] at h
    simp only [shift, nin]
    exact ⟨h.1, h.2.1, nins_shift W ks h.2.2⟩
theorem nins_shift (W : Int → Int) : ∀ (ks : List Nd), nins ks → nins (shifts W ks)
  | [], _ => by simp only [shifts, nins]
  | k :: ks, h => by
    simp only [nins] at h
    simp only [shifts, nins]
    exact ⟨nin_shift W k h.1, nins_shift W ks h.2⟩
end
theorem load_one (w : World) (b o : Nat) (q : Option Addr) (n c : Nat) (h : w.cell? ⟨b, o, none⟩ = some (.slice q n c)) : (Instr.loadAt 30 (.pointer (some ⟨b, o, none⟩))).run Try.prog w = .ok (.slice q n c) w := by go_simp
theorem below_grown {w u v : World} {r : Option Nat} (h : RowKit.Below w.heap.size w u) (g : u.grownBy v r) (hr : ∀ j, r = some j → w.heap.size ≤ j) : RowKit.Below w.heap.size w v :=
  ⟨g.os.trans h.os, g.tape.trans h.tape, g.output.trans h.output, Nat.le_trans h.size g.size, fun k hk => (g.block k (Nat.lt_of_lt_of_le hk h.size) (fun e => by have := hr k e.symm; omega)).trans (h.block k hk)⟩
theorem NV.grown {u v : World} {B : Nat} {r r' : Option Nat} {t : Nd} {l : List Value} (h : NV u (fun j => B ≤ j ∧ r ≠ some j) t l) (g : u.grownBy v r) (hb : r' = r ∨ r' = some u.heap.size) : NV v (fun j => B ≤ j ∧ r' ≠ some j) t l := by
  obtain ⟨z, h1, h2⟩ := h
  refine ⟨z, h1, NdM.keep g.size (fun j hj hl => g.block j hl (fun e => hj.2 e.symm)) (fun j hj hl => ⟨hj.1, ?_⟩) _ _ h2⟩
  rcases hb with rfl | rfl
  · exact hj.2
  · intro e; injection e with e; omega
theorem NV.kept2 {u v : World} {B b : Nat} {r : Option Nat} {t : Nd} {l : List Value} (h : NV u (fun j => B ≤ j ∧ r ≠ some j) t l) (hk : Kept b u v) (hb : b < B) : NV v (fun j => B ≤ j ∧ r ≠ some j) t l := by
  obtain ⟨z, h1, h2⟩ := h
  exact ⟨z, h1, NdM.keep hk.size (fun j hj hl => hk.block j hl (by omega)) (fun _ h _ => h) _ _ h2⟩
set_option maxRecDepth 100000 in
set_option maxHeartbeats 12000000 in
theorem lshifted_any (d : Int) (N : Nat) : ∀ (t : Nd), size t ≤ N → ∀ (g : Nat), wf vld g t = true → ∀ (x : Kd) (w : World), NdM w (fun _ => True) t x →
    Calls Try.prog 20 #[nV t x, .int .i64 d] w fun e w' => ∃ y, e = .returned (nV (shift (shW d) t) y) ∧ NdM w' (fun j => w.heap.size ≤ j) (shift (shW d) t) y ∧ RowKit.Below w.heap.size w w' := by
  induction N with
  | zero => intro t h; cases t; simp [size] at h
  | succ N ih =>
    intro t hN g hwf x w hx
    obtain ⟨bq, oq, hq, hkl, hk⟩ := kids_at hx
    obtain ⟨_, hok, hws⟩ := wf_ks hwf
    have hn3 := okNode_len hok
    clear hx hwf hok
    obtain ⟨op, pl, nm, n0, d0, ⟨uf, um, ua, ud⟩, ks⟩ := t
    obtain ⟨xq, xc⟩ := x
    simp only [Nd.ks] at hq hkl hk hws hn3
    simp only [size] at hN
    have HQ := Lib.hid hq
    have KI : Hid (∀ i (hi : i < ks.length), ∃ li : List Value, li.length = 10 ∧ ∀ V, RowKit.Below w.heap.size w V → (∀ (j : Nat) (v : Value), li[j]? = some v → V.cell? ⟨bq, oq + i * 10 + j, none⟩ = some v) ∧ Calls Try.prog 20 #[.agg li.toArray, .int .i64 d] V fun e w' => ∃ lz, e = .returned (.agg lz.toArray) ∧ Hid (lz.length = 10 ∧ ∀ u ∈ lz, u.oneCell' = true) ∧ Hid (NV w' (fun j => V.heap.size ≤ j) (shift (shW d) ks[i]) lz) ∧ RowKit.Below V.heap.size V w') := fun i hi => by
      obtain ⟨y, hy⟩ := hk i hi
      refine ⟨nC ks[i] y, nC_len _ _, fun V hV => ⟨(hy V hV).1, ?_⟩⟩
      refine (ih ks[i] (by have := size_get ks i hi; omega) _ (wfs_get hws _ (List.getElem_mem hi)) y V (hy V hV).2).mono ?_
      rintro e w' ⟨z, rfl, hz, hb⟩
      exact ⟨nC _ z, rfl, ⟨nC_len _ _, nC_one _ _⟩, ⟨z, rfl, hz⟩, hb⟩
    clear ih hk hq hws
    obtain ⟨wp, hwp⟩ : ∃ wp, wp = shW d pl := ⟨_, rfl⟩
    have HV : Hid (∀ q c, nV (shift (shW d) (.mk op pl nm n0 d0 ⟨uf, um, ua, ud⟩ ks)) ⟨q, c⟩ = .agg ([.int .i64 op, .int .i64 wp, .string (bs nm), .int .i64 n0, .int .i64 d0, .bool uf, .int .i64 um, .int .i64 ua, .int .i64 ud, .slice q ks.length c] : List Value).toArray) := fun q c => by
      simp only [shift, nV, nC, shifts_len]
      rw [hwp]
    have HF : Hid (∀ (V : World) (A : Nat → Prop) (q : Option Addr) (c : Nat) (rws : List (List Value)), rws.length = ks.length → (∀ b, A b → w.heap.size ≤ b) → (0 < ks.length → ∃ g, q = some ⟨g, 0, none⟩ ∧ w.heap.size ≤ g ∧ g < V.heap.size ∧ ∀ (i : Nat) (r : List Value), rws[i]? = some r → ∀ (j : Nat) (v : Value), r[j]? = some v → V.cell? ⟨g, i * 10 + j, none⟩ = some v) →
        (∀ i (hi : i < ks.length) (h' : i < rws.length), NV V A (shift (shW d) ks[i]) rws[i]) → NdM V (fun j => w.heap.size ≤ j) (shift (shW d) (.mk op pl nm n0 d0 ⟨uf, um, ua, ud⟩ ks)) ⟨q, c⟩) := fun V A q c rws hl hA hg hr => by
      simp only [shift, NdM, shifts_len]
      by_cases h0 : 0 < ks.length
      · obtain ⟨g, rfl, h1, h2, h3⟩ := hg h0
        refine ⟨g, 0, fun _ => ⟨rfl, h1, h2⟩, by omega, KdM.mk _ _ fun i hi => ?_⟩
        rw [shifts_len] at hi
        obtain ⟨z, hz1, hz2⟩ := hr i hi (by omega)
        rw [shifts_get (shW d) ks i hi]
        refine ⟨z, fun j v hv => ?_, NdM.keep (Nat.le_refl _) (fun _ _ _ => rfl) (fun j hj _ => hA j hj) _ _ hz2⟩
        rw [Nat.zero_add]
        exact h3 i _ (List.getElem?_eq_getElem (by omega)) j v (by rw [hz1]; exact hv)
      · have : ks = [] := List.length_eq_zero_iff.1 (by omega)
        subst this
        exact ⟨0, 0, fun h => absurd h h0, hkl, by simp only [shifts, KdM]⟩
    show Calls _ _ #[.agg #[.int .i64 op, .int .i64 pl, .string (bs nm), .int .i64 n0, .int .i64 d0, .bool uf, .int .i64 um, .int .i64 ua, .int .i64 ud, .slice xq ks.length xc], .int .i64 d] _ _
    generalize bs nm = s at *
    have hwr : IntKind.i64.wrap (pl + d) = wp := by rw [hwp]; rfl
    obtain ⟨n, hnn⟩ : ∃ n, n = ks.length := ⟨_, rfl⟩
    have HNN := Lib.hid hnn
    rw [← hnn]
    have hn3' : n ≤ 3 := by omega
    clear hwp hnn
    obtain ⟨W1, hW1⟩ : ∃ W1, w.alloc (.cells #[.int .i64 op, .int .i64 pl, .string s, .int .i64 n0, .int .i64 d0, .bool uf, .int .i64 um, .int .i64 ua, .int .i64 ud, .slice xq n xc] 32) = W1 := ⟨_, rfl⟩
    have a1 := (Below.refl w.heap.size w).alloc (Nat.le_refl _) (.cells ([.int .i64 op, .int .i64 pl, .string s, .int .i64 n0, .int .i64 d0, .bool uf, .int .i64 um, .int .i64 ua, .int .i64 ud, .slice xq n xc] : List Value).toArray 32)
    have x1 : BoxL W1 w.heap.size [.int .i64 op, .int .i64 pl, .string s, .int .i64 n0, .int .i64 d0, .bool uf, .int .i64 um, .int .i64 ua, .int .i64 ud, .slice xq n xc] := by rw [← hW1]; exact box_new _ _ rfl
    replace a1 : RowKit.Below w.heap.size w W1 := hW1 ▸ a1
    have z1 : W1.heap.size = w.heap.size + 1 := by rw [← hW1]; simp
    obtain ⟨W2, hW2⟩ : ∃ W2, W1.alloc (.cells #[.int .i64 0, .int .i64 0, .string ⟨#[]⟩, .int .i64 0, .int .i64 0, .bool false, .int .i64 0, .int .i64 0, .int .i64 0, .slice none 0 0] 32) = W2 := ⟨_, rfl⟩
    have a2 := (Below.refl W1.heap.size W1).alloc (Nat.le_refl _) (.cells zNodeL.toArray 32)
    have x2 : BoxL W2 (w.heap.size + 1) zNodeL := by rw [← hW2]; exact box_new _ _ z1
    replace a2 : RowKit.Below W1.heap.size W1 W2 := hW2 ▸ a2
    have z2 : W2.heap.size = w.heap.size + 2 := by rw [← hW2]; simp; omega
    have X2 := Lib.hid (x1.bel (by simp) a2)
    have X4 := Lib.hid x2
    have BB := Lib.hid (a1.trans (a2.mono (by omega)))
    clear x1 x2 a1 a2
    go_enter Try.func20, Try.ntmps20
    go_wp2_with (first | ((with_reducible show wpList _ _ _ ({ dst := some 7, op := _, type := _, pos := _, after := _, guard := _ } :: _) _ _); clear hW1 hW2 z1; refine wl_loadP rfl rfl rfl (load_row 32 10 (by kernel_rfl) (by kernel_rfl) _ _ [.int .i64 op, .int .i64 pl, .string s, .int .i64 n0, .int .i64 d0, .bool uf, .int .i64 um, .int .i64 ua, .int .i64 ud, .slice xq n xc] rfl (fun j v hv => (X2.out j v hv).1)) ?_; simp only [Act.put, List.setIfInBounds_toArray, List.set_cons_zero, List.set_cons_succ]) | ((with_reducible show wpList _ _ _ ({ dst := some 5, op := _, type := _, pos := _, after := _, guard := _ } :: _) _ _); refine wl_nbox (L := [.int .i64 op, .int .i64 pl, .string s, .int .i64 n0, .int .i64 d0, .bool uf, .int .i64 um, .int .i64 ua, .int .i64 ud, .slice xq n xc]) rfl rfl rfl rfl rfl (by simp [Value.oneCell']) rfl rfl ?_; intro V5 hb hs hx; rw [z2] at hx ⊢; replace BB := Lib.hid (BB.out.trans (hb.mono BB.out.size)); replace X2 := Lib.hid (X2.out.bel (by simp) hb); replace X4 := Lib.hid (X4.out.bel (by simp [zNodeL]) hb); have X5 := Lib.hid hx; have hsz : V5.heap.size = w.heap.size + 3 := (by omega); clear hb hx hs z2; simp only [Act.put, List.setIfInBounds_toArray, List.set_cons_zero, List.set_cons_succ]; obtain ⟨c1, -⟩ := X2.out 1 _ rfl; obtain ⟨d1, e1⟩ := X5.out 1 _ rfl) | ((with_reducible show wpList _ _ _ ({ dst := none, op := Op.store _ (Operand.tmp 12) _, type := _, pos := _, after := _, guard := _ } :: _) _ _); refine wl_store rfl rfl rfl rfl ((store_i V5 (w.heap.size + 2) 1 _ _ d1 e1)) ?_; have hk := (Kept.refl (w.heap.size + 2) V5).setCell 1 none (.int .i64 wp); replace BB := Lib.hid (below_kept BB.out hk (by omega)); replace X2 := Lib.hid (X2.out.call (by simp) hk (by omega)); replace X4 := Lib.hid (X4.out.call (by simp [zNodeL]) hk (by omega)); replace X5 : Hid (BoxL _ _ [.int .i64 op, .int .i64 wp, .string s, .int .i64 n0, .int .i64 d0, .bool uf, .int .i64 um, .int .i64 ua, .int .i64 ud, .slice xq n xc]) := Lib.hid (X5.out.set 1 (.int .i64 wp)); replace hsz : (V5.setCell ⟨w.heap.size + 2, 1, none⟩ (.int .i64 wp)).heap.size = w.heap.size + 3 := (by simp [World.setCell, hsz]); clear hk d1 e1; (try clear c1); simp only [Act.put]; generalize V5.setCell ⟨w.heap.size + 2, 1, none⟩ (.int .i64 wp) = V6 at *; obtain ⟨d1, e1⟩ := X5.out 9 _ rfl) | ((with_reducible show wpList _ _ _ ({ dst := none, op := Op.store _ (Operand.tmp 13) _, type := _, pos := _, after := _, guard := _ } :: _) _ _); refine wl_store rfl rfl rfl rfl ((store_sl V6 (w.heap.size + 2) 9 _ _ _ _ d1 e1)) ?_; have hk := (Kept.refl (w.heap.size + 2) V6).setCell 9 none (.slice none 0 0); replace BB := Lib.hid (below_kept BB.out hk (by omega)); replace X2 := Lib.hid (X2.out.call (by simp) hk (by omega)); replace X4 := Lib.hid (X4.out.call (by simp [zNodeL]) hk (by omega)); replace X5 : Hid (BoxL _ _ [.int .i64 op, .int .i64 wp, .string s, .int .i64 n0, .int .i64 d0, .bool uf, .int .i64 um, .int .i64 ua, .int .i64 ud, .slice none 0 0]) := Lib.hid (X5.out.set 9 (.slice none 0 0)); replace hsz : (V6.setCell ⟨w.heap.size + 2, 9, none⟩ (.slice none 0 0)).heap.size = w.heap.size + 3 := (by simp [World.setCell, hsz]); clear hk d1 e1; (try clear c1); simp only [Act.put]; generalize V6.setCell ⟨w.heap.size + 2, 9, none⟩ (.slice none 0 0) = V7 at *; obtain ⟨d1, e1⟩ := X5.out 9 _ rfl))
    clear d1 e1
    go_loopg [6] n (fun gg v6 wr => ∃ (i : Nat) (q : Option Addr) (cq : Nat) (rws : List (List Value)), i ≤ n ∧ n - i ≤ gg ∧ v6 = .int .i64 i ∧ Hid (RowKit.Below w.heap.size w wr) ∧ Hid (BoxL wr w.heap.size [.int .i64 op, .int .i64 pl, .string s, .int .i64 n0, .int .i64 d0, .bool uf, .int .i64 um, .int .i64 ua, .int .i64 ud, .slice xq n xc]) ∧ Hid (BoxL wr (w.heap.size + 1) zNodeL) ∧ Hid (BoxL wr (w.heap.size + 2) [.int .i64 op, .int .i64 wp, .string s, .int .i64 n0, .int .i64 d0, .bool uf, .int .i64 um, .int .i64 ua, .int .i64 ud, .slice q i cq]) ∧ Hid (rws.length = i ∧ ∀ r ∈ rws, r.length = 10) ∧ Hid (wr.ownsRow (w.heap.size + 3) 32 10 (.slice q i cq) i rws.flatten) ∧ Hid (∀ j (hj : j < ks.length) (h' : j < rws.length), NV wr (fun r => w.heap.size + 3 ≤ r ∧ (Value.slice q i cq).ownBlock ≠ some r) (shift (shW d) ks[j]) rws[j]) ∧ w.heap.size + 3 ≤ wr.heap.size)
    case atStart => exact ⟨0, none, 0, [], Nat.zero_le _, by omega, by simp, BB, X2, X4, X5, ⟨rfl, fun r hr => absurd hr List.not_mem_nil⟩, World.ownsRow_nil _ _ _ _, fun j _ h' => absurd h' (Nat.not_lt_zero _), by omega⟩
    clear BB X2 X4 X5 hsz
    case round =>
      obtain ⟨i, q, cq, rws, hi, hg, rfl, BB, X2, X4, X5, HRL, OW, NK, hsz⟩ := hrel
      obtain ⟨c9, -⟩ := X2.out 9 _ rfl
      by_cases hlt : i < n
      · have hz : (i : Int) < (n : Int) := by omega
        have hik : i < ks.length := by rw [← HNN.out]; exact hlt
        have hq := HQ.out (by omega)
        subst hq
        obtain ⟨li, hli, hki⟩ := KI.out i hik
        have KC := Lib.hid hki
        clear hki
        have e2 : IntKind.i64.wrap ((i : Int) + 1) = ((i + 1 : Nat) : Int) := by rw [IntWalk.i64_in _ (by omega)]; rfl
        go_wp2_with fail
        clear c9
        have hb := (Below.refl wr.heap.size wr).drew
        have hsz0 := hb.size
        replace BB := Lib.hid (BB.out.trans (hb.mono BB.out.size))
        replace X2 := Lib.hid (X2.out.bel (by simp) hb)
        replace X4 := Lib.hid (X4.out.bel (by simp [zNodeL]) hb)
        replace X5 := Lib.hid (X5.out.bel (by simp) hb)
        replace OW := Lib.hid (own_heap OW.out (fun j _ hj => hb.block j hj))
        replace NK : Hid (∀ j (hj : j < ks.length) (h' : j < rws.length), NV wr.drew (fun r => w.heap.size + 3 ≤ r ∧ (Value.slice q i cq).ownBlock ≠ some r) (shift (shW d) ks[j]) rws[j]) := fun j hj h' => (NK.out j hj h').bel hb
        replace hsz : w.heap.size + 3 ≤ wr.drew.heap.size := Nat.le_trans hsz hsz0
        clear hsz0
        have hS : Hid (BoxL wr.drew w.heap.size [.int .i64 op, .int .i64 pl, .string s, .int .i64 n0, .int .i64 d0, .bool uf, .int .i64 um, .int .i64 ua, .int .i64 ud, .slice (some ⟨bq, oq, none⟩) n xc]) ∧ Hid (∀ (j : Nat) (v : Value), li[j]? = some v → wr.drew.cell? ⟨bq, oq + i * 10 + j, none⟩ = some v) := ⟨X2, (KC.out _ BB.out).1⟩
        refine wp_region_held (S := fun w' : World => Hid (BoxL w' w.heap.size [.int .i64 op, .int .i64 pl, .string s, .int .i64 n0, .int .i64 d0, .bool uf, .int .i64 um, .int .i64 ua, .int .i64 ud, .slice (some ⟨bq, oq, none⟩) n xc]) ∧ Hid (∀ (j : Nat) (v : Value), li[j]? = some v → w'.cell? ⟨bq, oq + i * 10 + j, none⟩ = some v)) mixed ?_
        change wpAnyH _ _ _ _ _ _ _ _ wr.drew
        clear hb
        generalize wr.drew = U1 at *
        refine tk0 (v := ?_) (by kernel_rfl) (by kernel_rfl) (by kernel_rfl) (fun _ _ _ h => h) (Or.inl ⟨by rfl, ?_⟩) hS ?_
        rotate_left
        · intro w' hSw; clear hSw; go_simp; try with_reducible rfl
        simp only [Act.put, List.setIfInBounds_toArray, List.set_cons_zero, List.set_cons_succ]
        refine tk2 (v := ?_) (by kernel_rfl) (by kernel_rfl) (by kernel_rfl) (fun _ _ _ h => h) (Or.inl ⟨by rfl, ?_⟩) hS ?_
        rotate_left
        · intro w' hSw; clear hSw; go_simp; try with_reducible rfl
        simp only [Act.put, List.setIfInBounds_toArray, List.set_cons_zero, List.set_cons_succ]
        refine tk3 (v := ?_) (by kernel_rfl) (by kernel_rfl) (by kernel_rfl) (fun _ _ _ h => h) (Or.inl ⟨by rfl, ?_⟩) hS ?_
        rotate_left
        · intro w' hSw; obtain ⟨s9, -⟩ := hSw.1.out 9 _ rfl; clear hSw; go_simp; try with_reducible rfl
        simp only [Act.put, List.setIfInBounds_toArray, List.set_cons_zero, List.set_cons_succ]
        refine tk4 (v := ?_) (by kernel_rfl) (by kernel_rfl) (by kernel_rfl) (fun _ _ _ h => h) (Or.inl ⟨by rfl, ?_⟩) hS ?_
        rotate_left
        · intro w' hSw; clear hSw; go_simp; try with_reducible rfl
        simp only [Act.put, List.setIfInBounds_toArray, List.set_cons_zero, List.set_cons_succ]
        refine tk5 (v := ?_) (by kernel_rfl) (by kernel_rfl) (by kernel_rfl) (fun _ _ _ h => h) (Or.inl ⟨by rfl, ?_⟩) hS ?_
        rotate_left
        · intro w' hSw; clear hSw; go_simp; try with_reducible rfl
        simp only [Act.put, List.setIfInBounds_toArray, List.set_cons_zero, List.set_cons_succ]
        refine tk6 (v := .agg li.toArray) (by kernel_rfl) (by kernel_rfl) (by kernel_rfl) (fun _ _ _ h => h) (Or.inl ⟨by rfl, ?_⟩) hS ?_
        · intro w' hSw
          exact ex_load rfl rfl (load_rowAt 32 10 (by kernel_rfl) (by kernel_rfl) _ _ _ li hli hSw.2.out)
        simp only [Act.put, List.setIfInBounds_toArray, List.set_cons_zero, List.set_cons_succ]
        refine tk7 (v := ?_) (by kernel_rfl) (by kernel_rfl) (by kernel_rfl) (fun _ _ _ h => h) (Or.inl ⟨by rfl, ?_⟩) hS ?_
        rotate_left
        · intro w' hSw; clear hSw; go_simp; try with_reducible rfl
        simp only [Act.put, List.setIfInBounds_toArray, List.set_cons_zero, List.set_cons_succ]
        refine wpAnyH_ready (rs := [1, 8]) (by kernel_rfl) (by simp) (st1 (fun K hK => ?_) (st8 (fun K hK => ?_) AllReadyH.nil))
        · refine (if_pos (by kernel_rfl)).mpr ?_
          refine wp_load rfl rfl (load_one _ _ _ _ _ _ (X5.out 9 _ rfl).1) ?_
          refine hK.out _ _ ?_ (fun hHeld => ?_)
          · exact hS
          clear hK K
          try simp only [Act.put, List.setIfInBounds_toArray, List.set_cons_zero, List.set_cons_succ]
          refine wpAnyH_ready (rs := [8]) (by kernel_rfl) (by simp) (st8 (fun K hK => ?_) AllReadyH.nil)
          go_simp
          refine ((KC.out _ BB.out).2).mono ?_
          rintro _ U2 ⟨lz, rfl, HL, HZ0, hb⟩
          go_wp2_with fail
          have HZ : Hid (NV U2 (fun r => w.heap.size + 3 ≤ r ∧ (Value.slice q i cq).ownBlock ≠ some r) (shift (shW d) ks[i]) lz) := HZ0.out.re (fun r hr _ => ⟨by omega, fun e => by have := (OW.out.lt r e).2; omega⟩)
          clear HZ0
          have hsz0 := hb.size
          replace BB := Lib.hid (BB.out.trans (hb.mono BB.out.size))
          replace X2 := Lib.hid (X2.out.bel (by simp) hb)
          replace X4 := Lib.hid (X4.out.bel (by simp [zNodeL]) hb)
          replace X5 := Lib.hid (X5.out.bel (by simp) hb)
          replace OW := Lib.hid (own_heap OW.out (fun j _ hj => hb.block j hj))
          replace NK : Hid (∀ j (hj : j < ks.length) (h' : j < rws.length), NV U2 (fun r => w.heap.size + 3 ≤ r ∧ (Value.slice q i cq).ownBlock ≠ some r) (shift (shW d) ks[j]) rws[j]) := fun j hj h' => (NK.out j hj h').bel hb
          replace hsz : w.heap.size + 3 ≤ U2.heap.size := Nat.le_trans hsz hsz0
          clear hsz0
          have hS : Hid (BoxL U2 w.heap.size [.int .i64 op, .int .i64 pl, .string s, .int .i64 n0, .int .i64 d0, .bool uf, .int .i64 um, .int .i64 ua, .int .i64 ud, .slice (some ⟨bq, oq, none⟩) n xc]) ∧ Hid (∀ (j : Nat) (v : Value), li[j]? = some v → U2.cell? ⟨bq, oq + i * 10 + j, none⟩ = some v) := ⟨X2, (KC.out _ BB.out).1⟩
          clear hb
          refine hK.out _ _ ?_ (fun hHeld => ?_)
          · exact hS
          clear hK K
          try simp only [Act.put, List.setIfInBounds_toArray, List.set_cons_zero, List.set_cons_succ]
          refine wpAnyH_ready (rs := [9]) (by kernel_rfl) (by simp) (st9 (fun K hK => ?_) AllReadyH.nil)
          refine (if_pos (by kernel_rfl)).mpr ?_
          refine wp_slice1 rfl rfl (slice_nodeL lz HL.out.1 U2) ?_
          have hb := (Below.refl U2.heap.size U2).alloc (Nat.le_refl _) (.cells lz.toArray 32)
          have D := Lib.hid (BoxL.new U2 lz 32)
          obtain ⟨U3, hU3⟩ : ∃ V, U2.alloc (.cells lz.toArray 32) = V := ⟨_, rfl⟩
          rw [hU3] at hb D ⊢
          clear hU3
          obtain ⟨bn, hbn⟩ : ∃ b, b = U2.heap.size := ⟨_, rfl⟩
          rw [← hbn] at D ⊢
          clear hbn
          replace HZ := Lib.hid (HZ.out.bel hb)
          have hsz0 := hb.size
          replace BB := Lib.hid (BB.out.trans (hb.mono BB.out.size))
          replace X2 := Lib.hid (X2.out.bel (by simp) hb)
          replace X4 := Lib.hid (X4.out.bel (by simp [zNodeL]) hb)
          replace X5 := Lib.hid (X5.out.bel (by simp) hb)
          replace OW := Lib.hid (own_heap OW.out (fun j _ hj => hb.block j hj))
          replace NK : Hid (∀ j (hj : j < ks.length) (h' : j < rws.length), NV U3 (fun r => w.heap.size + 3 ≤ r ∧ (Value.slice q i cq).ownBlock ≠ some r) (shift (shW d) ks[j]) rws[j]) := fun j hj h' => (NK.out j hj h').bel hb
          replace hsz : w.heap.size + 3 ≤ U3.heap.size := Nat.le_trans hsz hsz0
          clear hsz0
          have hS : Hid (BoxL U3 w.heap.size [.int .i64 op, .int .i64 pl, .string s, .int .i64 n0, .int .i64 d0, .bool uf, .int .i64 um, .int .i64 ua, .int .i64 ud, .slice (some ⟨bq, oq, none⟩) n xc]) ∧ Hid (∀ (j : Nat) (v : Value), li[j]? = some v → U3.cell? ⟨bq, oq + i * 10 + j, none⟩ = some v) := ⟨X2, (KC.out _ BB.out).1⟩
          clear hb
          refine hK.out _ _ ?_ (fun hHeld => ?_)
          · exact hS
          clear hK K
          try simp only [Act.put, List.setIfInBounds_toArray, List.set_cons_zero, List.set_cons_succ]
          refine wpAnyH_ready (rs := [10]) (by kernel_rfl) (by simp) (st10 (fun K hK => ?_) AllReadyH.nil)
          obtain ⟨v', U4, hr, hown, hgr, hob⟩ := run_app1 30 32 10 Try.underlying30 info_Nd (by omega) U3 (w.heap.size + 3) 30 (.slice q i cq) i rws.flatten OW.out bn lz HL.out.1 (fun j u hu => (D.out j u hu).1) HL.out.2 (by omega) hsz
          obtain ⟨q', cq', rfl⟩ := own_slice hown
          refine (if_pos (by kernel_rfl)).mpr ?_
          refine wp_app _ _ rfl rfl rfl hr ?_
          have hne : ∀ j, j < w.heap.size + 3 → some j ≠ (Value.slice q i cq).ownBlock := fun j hj e => by have := (OW.out.lt j e.symm).1; omega
          replace BB := Lib.hid (below_grown BB.out hgr (fun j e => by have := (OW.out.lt j e).1; omega))
          replace X2 := Lib.hid (X2.out.of (hgr.block _ (X2.out.lt (by simp)) (hne _ (by omega))))
          replace X4 := Lib.hid (X4.out.of (hgr.block _ (X4.out.lt (by simp [zNodeL])) (hne _ (by omega))))
          replace X5 := Lib.hid (X5.out.of (hgr.block _ (X5.out.lt (by simp)) (hne _ (by omega))))
          have HZ1 := HZ.out.grown hgr hob
          have NK1 : ∀ j (hj : j < ks.length) (h' : j < rws.length), _ := fun j hj h' => (NK.out j hj h').grown hgr hob
          replace hsz := Nat.le_trans hsz hgr.size
          clear NK HZ OW D hgr hob hr hne
          replace OW := Lib.hid hown
          clear hown
          have hS : Hid (BoxL U4 w.heap.size [.int .i64 op, .int .i64 pl, .string s, .int .i64 n0, .int .i64 d0, .bool uf, .int .i64 um, .int .i64 ua, .int .i64 ud, .slice (some ⟨bq, oq, none⟩) n xc]) ∧ Hid (∀ (j : Nat) (v : Value), li[j]? = some v → U4.cell? ⟨bq, oq + i * 10 + j, none⟩ = some v) := ⟨X2, (KC.out _ BB.out).1⟩
          refine hK.out _ _ ?_ (fun hHeld => ?_)
          · exact hS
          clear hK K
          try simp only [Act.put, List.setIfInBounds_toArray, List.set_cons_zero, List.set_cons_succ]
          refine tk11 (v := ?_) (by kernel_rfl) (by kernel_rfl) (by kernel_rfl) (fun _ _ _ h => h) (Or.inl ⟨by rfl, ?_⟩) hS ?_
          rotate_left
          · intro w' hSw; clear hSw; go_simp; try with_reducible rfl
          simp only [Act.put, List.setIfInBounds_toArray, List.set_cons_zero, List.set_cons_succ]
          refine wpAnyH_ready (rs := [12]) (by kernel_rfl) (by simp) (st12 (fun K hK => ?_) AllReadyH.nil)
          refine (if_pos (by kernel_rfl)).mpr ?_
          refine wp_store rfl rfl rfl (store_sl U4 (w.heap.size + 2) 9 _ _ _ _ (X5.out 9 _ rfl).1 (X5.out 9 _ rfl).2) ?_
          have hk := (Kept.refl (w.heap.size + 2) U4).setCell 9 none (.slice q' (i + 1) cq')
          replace BB := Lib.hid (below_kept BB.out hk (by omega))
          replace X2 := Lib.hid (X2.out.call (by simp) hk (by omega))
          replace X4 := Lib.hid (X4.out.call (by simp [zNodeL]) hk (by omega))
          replace X5 : Hid (BoxL _ _ [.int .i64 op, .int .i64 wp, .string s, .int .i64 n0, .int .i64 d0, .bool uf, .int .i64 um, .int .i64 ua, .int .i64 ud, .slice q' (i + 1) cq']) := Lib.hid (X5.out.set 9 (.slice q' (i + 1) cq'))
          have OW2 := own_heap OW.out (fun j e hj => hk.block j hj (by have := (OW.out.lt j e).1; omega))
          have HZ2 := HZ1.kept2 hk (by omega)
          have NK2 : ∀ j (hj : j < ks.length) (h' : j < rws.length), _ := fun j hj h' => (NK1 j hj h').kept2 hk (by omega)
          replace hsz := Nat.le_trans hsz hk.size
          clear NK1 HZ1 OW hk
          have HRL2 : Hid ((rws ++ [lz]).length = i + 1 ∧ ∀ r ∈ rws ++ [lz], r.length = 10) := ⟨by rw [List.length_append, HRL.out.1]; rfl, fun r hr => by
            rcases List.mem_append.1 hr with h | h
            · exact HRL.out.2 r h
            · rw [List.mem_singleton.1 h]; exact HL.out.1⟩
          generalize U4.setCell ⟨w.heap.size + 2, 9, none⟩ (.slice q' (i + 1) cq') = U5 at *
          rw [show rws.flatten ++ lz = (rws ++ [lz]).flatten by simp] at OW2
          have OW := Lib.hid OW2
          have NK : Hid (∀ j (hj : j < ks.length) (h' : j < (rws ++ [lz]).length), NV U5 (fun r => w.heap.size + 3 ≤ r ∧ (Value.slice q' (i + 1) cq').ownBlock ≠ some r) (shift (shW d) ks[j]) (rws ++ [lz])[j]) := fun j hj h' => by
            by_cases hjl : j < rws.length
            · rw [List.getElem_append_left hjl]; exact NK2 j hj hjl
            · have hji : j = i := by have h1 := HRL.out.1; rw [List.length_append, List.length_singleton] at h'; omega
              subst hji
              rw [List.getElem_append_right (by omega)]
              simp only [HRL.out.1, Nat.sub_self, List.getElem_cons_zero]
              exact HZ2
          clear OW2 NK2 HZ2 HRL HL
          have hS : Hid (BoxL U5 w.heap.size [.int .i64 op, .int .i64 pl, .string s, .int .i64 n0, .int .i64 d0, .bool uf, .int .i64 um, .int .i64 ua, .int .i64 ud, .slice (some ⟨bq, oq, none⟩) n xc]) ∧ Hid (∀ (j : Nat) (v : Value), li[j]? = some v → U5.cell? ⟨bq, oq + i * 10 + j, none⟩ = some v) := ⟨X2, (KC.out _ BB.out).1⟩
          refine hK.out _ _ ?_ (fun hHeld => ?_)
          · exact hS
          clear hK K
          try simp only [Act.put]
          refine wpAnyH_done (by kernel_rfl) ?_ _
          clear hS
          go_wp2_with fail
          all_goals
            go_roundg (n - (i + 1))
            case measure => omega
            case rel => exact ⟨i + 1, q', cq', rws ++ [lz], by omega, Nat.le_refl _, by simp, BB, X2, X4, X5, HRL2, OW, NK, hsz⟩
        · go_simp
          refine ((KC.out _ BB.out).2).mono ?_
          rintro _ U6 ⟨lz, rfl, HL, HZ0, hb⟩
          go_wp2_with fail
          have HZ : Hid (NV U6 (fun r => w.heap.size + 3 ≤ r ∧ (Value.slice q i cq).ownBlock ≠ some r) (shift (shW d) ks[i]) lz) := HZ0.out.re (fun r hr _ => ⟨by omega, fun e => by have := (OW.out.lt r e).2; omega⟩)
          clear HZ0
          have hsz0 := hb.size
          replace BB := Lib.hid (BB.out.trans (hb.mono BB.out.size))
          replace X2 := Lib.hid (X2.out.bel (by simp) hb)
          replace X4 := Lib.hid (X4.out.bel (by simp [zNodeL]) hb)
          replace X5 := Lib.hid (X5.out.bel (by simp) hb)
          replace OW := Lib.hid (own_heap OW.out (fun j _ hj => hb.block j hj))
          replace NK : Hid (∀ j (hj : j < ks.length) (h' : j < rws.length), NV U6 (fun r => w.heap.size + 3 ≤ r ∧ (Value.slice q i cq).ownBlock ≠ some r) (shift (shW d) ks[j]) rws[j]) := fun j hj h' => (NK.out j hj h').bel hb
          replace hsz : w.heap.size + 3 ≤ U6.heap.size := Nat.le_trans hsz hsz0
          clear hsz0
          have hS : Hid (BoxL U6 w.heap.size [.int .i64 op, .int .i64 pl, .string s, .int .i64 n0, .int .i64 d0, .bool uf, .int .i64 um, .int .i64 ua, .int .i64 ud, .slice (some ⟨bq, oq, none⟩) n xc]) ∧ Hid (∀ (j : Nat) (v : Value), li[j]? = some v → U6.cell? ⟨bq, oq + i * 10 + j, none⟩ = some v) := ⟨X2, (KC.out _ BB.out).1⟩
          clear hb
          refine hK.out _ _ ?_ (fun hHeld => ?_)
          · exact hS
          clear hK K
          try simp only [Act.put, List.setIfInBounds_toArray, List.set_cons_zero, List.set_cons_succ]
          refine wpAnyH_ready (rs := [1, 9]) (by kernel_rfl) (by simp) (st1 (fun K hK => ?_) (st9 (fun K hK => ?_) AllReadyH.nil))
          · refine (if_pos (by kernel_rfl)).mpr ?_
            refine wp_load rfl rfl (load_one _ _ _ _ _ _ (X5.out 9 _ rfl).1) ?_
            refine hK.out _ _ ?_ (fun hHeld => ?_)
            · exact hS
            clear hK K
            try simp only [Act.put, List.setIfInBounds_toArray, List.set_cons_zero, List.set_cons_succ]
            refine wpAnyH_ready (rs := [9]) (by kernel_rfl) (by simp) (st9 (fun K hK => ?_) AllReadyH.nil)
            refine (if_pos (by kernel_rfl)).mpr ?_
            refine wp_slice1 rfl rfl (slice_nodeL lz HL.out.1 U6) ?_
            have hb := (Below.refl U6.heap.size U6).alloc (Nat.le_refl _) (.cells lz.toArray 32)
            have D := Lib.hid (BoxL.new U6 lz 32)
            obtain ⟨U7, hU7⟩ : ∃ V, U6.alloc (.cells lz.toArray 32) = V := ⟨_, rfl⟩
            rw [hU7] at hb D ⊢
            clear hU7
            obtain ⟨bn, hbn⟩ : ∃ b, b = U6.heap.size := ⟨_, rfl⟩
            rw [← hbn] at D ⊢
            clear hbn
            replace HZ := Lib.hid (HZ.out.bel hb)
            have hsz0 := hb.size
            replace BB := Lib.hid (BB.out.trans (hb.mono BB.out.size))
            replace X2 := Lib.hid (X2.out.bel (by simp) hb)
            replace X4 := Lib.hid (X4.out.bel (by simp [zNodeL]) hb)
            replace X5 := Lib.hid (X5.out.bel (by simp) hb)
            replace OW := Lib.hid (own_heap OW.out (fun j _ hj => hb.block j hj))
            replace NK : Hid (∀ j (hj : j < ks.length) (h' : j < rws.length), NV U7 (fun r => w.heap.size + 3 ≤ r ∧ (Value.slice q i cq).ownBlock ≠ some r) (shift (shW d) ks[j]) rws[j]) := fun j hj h' => (NK.out j hj h').bel hb
            replace hsz : w.heap.size + 3 ≤ U7.heap.size := Nat.le_trans hsz hsz0
            clear hsz0
            have hS : Hid (BoxL U7 w.heap.size [.int .i64 op, .int .i64 pl, .string s, .int .i64 n0, .int .i64 d0, .bool uf, .int .i64 um, .int .i64 ua, .int .i64 ud, .slice (some ⟨bq, oq, none⟩) n xc]) ∧ Hid (∀ (j : Nat) (v : Value), li[j]? = some v → U7.cell? ⟨bq, oq + i * 10 + j, none⟩ = some v) := ⟨X2, (KC.out _ BB.out).1⟩
            clear hb
            refine hK.out _ _ ?_ (fun hHeld => ?_)
            · exact hS
            clear hK K
            try simp only [Act.put, List.setIfInBounds_toArray, List.set_cons_zero, List.set_cons_succ]
            refine wpAnyH_ready (rs := [10]) (by kernel_rfl) (by simp) (st10 (fun K hK => ?_) AllReadyH.nil)
            obtain ⟨v', U8, hr, hown, hgr, hob⟩ := run_app1 30 32 10 Try.underlying30 info_Nd (by omega) U7 (w.heap.size + 3) 30 (.slice q i cq) i rws.flatten OW.out bn lz HL.out.1 (fun j u hu => (D.out j u hu).1) HL.out.2 (by omega) hsz
            obtain ⟨q', cq', rfl⟩ := own_slice hown
            refine (if_pos (by kernel_rfl)).mpr ?_
            refine wp_app _ _ rfl rfl rfl hr ?_
            have hne : ∀ j, j < w.heap.size + 3 → some j ≠ (Value.slice q i cq).ownBlock := fun j hj e => by have := (OW.out.lt j e.symm).1; omega
            replace BB := Lib.hid (below_grown BB.out hgr (fun j e => by have := (OW.out.lt j e).1; omega))
            replace X2 := Lib.hid (X2.out.of (hgr.block _ (X2.out.lt (by simp)) (hne _ (by omega))))
            replace X4 := Lib.hid (X4.out.of (hgr.block _ (X4.out.lt (by simp [zNodeL])) (hne _ (by omega))))
            replace X5 := Lib.hid (X5.out.of (hgr.block _ (X5.out.lt (by simp)) (hne _ (by omega))))
            have HZ1 := HZ.out.grown hgr hob
            have NK1 : ∀ j (hj : j < ks.length) (h' : j < rws.length), _ := fun j hj h' => (NK.out j hj h').grown hgr hob
            replace hsz := Nat.le_trans hsz hgr.size
            clear NK HZ OW D hgr hob hr hne
            replace OW := Lib.hid hown
            clear hown
            have hS : Hid (BoxL U8 w.heap.size [.int .i64 op, .int .i64 pl, .string s, .int .i64 n0, .int .i64 d0, .bool uf, .int .i64 um, .int .i64 ua, .int .i64 ud, .slice (some ⟨bq, oq, none⟩) n xc]) ∧ Hid (∀ (j : Nat) (v : Value), li[j]? = some v → U8.cell? ⟨bq, oq + i * 10 + j, none⟩ = some v) := ⟨X2, (KC.out _ BB.out).1⟩
            refine hK.out _ _ ?_ (fun hHeld => ?_)
            · exact hS
            clear hK K
            try simp only [Act.put, List.setIfInBounds_toArray, List.set_cons_zero, List.set_cons_succ]
            refine tk11 (v := ?_) (by kernel_rfl) (by kernel_rfl) (by kernel_rfl) (fun _ _ _ h => h) (Or.inl ⟨by rfl, ?_⟩) hS ?_
            rotate_left
            · intro w' hSw; clear hSw; go_simp; try with_reducible rfl
            simp only [Act.put, List.setIfInBounds_toArray, List.set_cons_zero, List.set_cons_succ]
            refine wpAnyH_ready (rs := [12]) (by kernel_rfl) (by simp) (st12 (fun K hK => ?_) AllReadyH.nil)
            refine (if_pos (by kernel_rfl)).mpr ?_
            refine wp_store rfl rfl rfl (store_sl U8 (w.heap.size + 2) 9 _ _ _ _ (X5.out 9 _ rfl).1 (X5.out 9 _ rfl).2) ?_
            have hk := (Kept.refl (w.heap.size + 2) U8).setCell 9 none (.slice q' (i + 1) cq')
            replace BB := Lib.hid (below_kept BB.out hk (by omega))
            replace X2 := Lib.hid (X2.out.call (by simp) hk (by omega))
            replace X4 := Lib.hid (X4.out.call (by simp [zNodeL]) hk (by omega))
            replace X5 : Hid (BoxL _ _ [.int .i64 op, .int .i64 wp, .string s, .int .i64 n0, .int .i64 d0, .bool uf, .int .i64 um, .int .i64 ua, .int .i64 ud, .slice q' (i + 1) cq']) := Lib.hid (X5.out.set 9 (.slice q' (i + 1) cq'))
            have OW2 := own_heap OW.out (fun j e hj => hk.block j hj (by have := (OW.out.lt j e).1; omega))
            have HZ2 := HZ1.kept2 hk (by omega)
            have NK2 : ∀ j (hj : j < ks.length) (h' : j < rws.length), _ := fun j hj h' => (NK1 j hj h').kept2 hk (by omega)
            replace hsz := Nat.le_trans hsz hk.size
            clear NK1 HZ1 OW hk
            have HRL2 : Hid ((rws ++ [lz]).length = i + 1 ∧ ∀ r ∈ rws ++ [lz], r.length = 10) := ⟨by rw [List.length_append, HRL.out.1]; rfl, fun r hr => by
              rcases List.mem_append.1 hr with h | h
              · exact HRL.out.2 r h
              · rw [List.mem_singleton.1 h]; exact HL.out.1⟩
            generalize U8.setCell ⟨w.heap.size + 2, 9, none⟩ (.slice q' (i + 1) cq') = U9 at *
            rw [show rws.flatten ++ lz = (rws ++ [lz]).flatten by simp] at OW2
            have OW := Lib.hid OW2
            have NK : Hid (∀ j (hj : j < ks.length) (h' : j < (rws ++ [lz]).length), NV U9 (fun r => w.heap.size + 3 ≤ r ∧ (Value.slice q' (i + 1) cq').ownBlock ≠ some r) (shift (shW d) ks[j]) (rws ++ [lz])[j]) := fun j hj h' => by
              by_cases hjl : j < rws.length
              · rw [List.getElem_append_left hjl]; exact NK2 j hj hjl
              · have hji : j = i := by have h1 := HRL.out.1; rw [List.length_append, List.length_singleton] at h'; omega
                subst hji
                rw [List.getElem_append_right (by omega)]
                simp only [HRL.out.1, Nat.sub_self, List.getElem_cons_zero]
                exact HZ2
            clear OW2 NK2 HZ2 HRL HL
            have hS : Hid (BoxL U9 w.heap.size [.int .i64 op, .int .i64 pl, .string s, .int .i64 n0, .int .i64 d0, .bool uf, .int .i64 um, .int .i64 ua, .int .i64 ud, .slice (some ⟨bq, oq, none⟩) n xc]) ∧ Hid (∀ (j : Nat) (v : Value), li[j]? = some v → U9.cell? ⟨bq, oq + i * 10 + j, none⟩ = some v) := ⟨X2, (KC.out _ BB.out).1⟩
            refine hK.out _ _ ?_ (fun hHeld => ?_)
            · exact hS
            clear hK K
            try simp only [Act.put]
            refine wpAnyH_done (by kernel_rfl) ?_ _
            clear hS
            go_wp2_with fail
            all_goals
              go_roundg (n - (i + 1))
              case measure => omega
              case rel => exact ⟨i + 1, q', cq', rws ++ [lz], by omega, Nat.le_refl _, by simp, BB, X2, X4, X5, HRL2, OW, NK, hsz⟩
          · refine (if_pos (by kernel_rfl)).mpr ?_
            refine wp_slice1 rfl rfl (slice_nodeL lz HL.out.1 U6) ?_
            have hb := (Below.refl U6.heap.size U6).alloc (Nat.le_refl _) (.cells lz.toArray 32)
            have D := Lib.hid (BoxL.new U6 lz 32)
            obtain ⟨U10, hU10⟩ : ∃ V, U6.alloc (.cells lz.toArray 32) = V := ⟨_, rfl⟩
            rw [hU10] at hb D ⊢
            clear hU10
            obtain ⟨bn, hbn⟩ : ∃ b, b = U6.heap.size := ⟨_, rfl⟩
            rw [← hbn] at D ⊢
            clear hbn
            replace HZ := Lib.hid (HZ.out.bel hb)
            have hsz0 := hb.size
            replace BB := Lib.hid (BB.out.trans (hb.mono BB.out.size))
            replace X2 := Lib.hid (X2.out.bel (by simp) hb)
            replace X4 := Lib.hid (X4.out.bel (by simp [zNodeL]) hb)
            replace X5 := Lib.hid (X5.out.bel (by simp) hb)
            replace OW := Lib.hid (own_heap OW.out (fun j _ hj => hb.block j hj))
            replace NK : Hid (∀ j (hj : j < ks.length) (h' : j < rws.length), NV U10 (fun r => w.heap.size + 3 ≤ r ∧ (Value.slice q i cq).ownBlock ≠ some r) (shift (shW d) ks[j]) rws[j]) := fun j hj h' => (NK.out j hj h').bel hb
            replace hsz : w.heap.size + 3 ≤ U10.heap.size := Nat.le_trans hsz hsz0
            clear hsz0
            have hS : Hid (BoxL U10 w.heap.size [.int .i64 op, .int .i64 pl, .string s, .int .i64 n0, .int .i64 d0, .bool uf, .int .i64 um, .int .i64 ua, .int .i64 ud, .slice (some ⟨bq, oq, none⟩) n xc]) ∧ Hid (∀ (j : Nat) (v : Value), li[j]? = some v → U10.cell? ⟨bq, oq + i * 10 + j, none⟩ = some v) := ⟨X2, (KC.out _ BB.out).1⟩
            clear hb
            refine hK.out _ _ ?_ (fun hHeld => ?_)
            · exact hS
            clear hK K
            try simp only [Act.put, List.setIfInBounds_toArray, List.set_cons_zero, List.set_cons_succ]
            refine wpAnyH_ready (rs := [1]) (by kernel_rfl) (by simp) (st1 (fun K hK => ?_) AllReadyH.nil)
            refine (if_pos (by kernel_rfl)).mpr ?_
            refine wp_load rfl rfl (load_one _ _ _ _ _ _ (X5.out 9 _ rfl).1) ?_
            refine hK.out _ _ ?_ (fun hHeld => ?_)
            · exact hS
            clear hK K
            try simp only [Act.put, List.setIfInBounds_toArray, List.set_cons_zero, List.set_cons_succ]
            refine wpAnyH_ready (rs := [10]) (by kernel_rfl) (by simp) (st10 (fun K hK => ?_) AllReadyH.nil)
            obtain ⟨v', U11, hr, hown, hgr, hob⟩ := run_app1 30 32 10 Try.underlying30 info_Nd (by omega) U10 (w.heap.size + 3) 30 (.slice q i cq) i rws.flatten OW.out bn lz HL.out.1 (fun j u hu => (D.out j u hu).1) HL.out.2 (by omega) hsz
            obtain ⟨q', cq', rfl⟩ := own_slice hown
            refine (if_pos (by kernel_rfl)).mpr ?_
            refine wp_app _ _ rfl rfl rfl hr ?_
            have hne : ∀ j, j < w.heap.size + 3 → some j ≠ (Value.slice q i cq).ownBlock := fun j hj e => by have := (OW.out.lt j e.symm).1; omega
            replace BB := Lib.hid (below_grown BB.out hgr (fun j e => by have := (OW.out.lt j e).1; omega))
            replace X2 := Lib.hid (X2.out.of (hgr.block _ (X2.out.lt (by simp)) (hne _ (by omega))))
            replace X4 := Lib.hid (X4.out.of (hgr.block _ (X4.out.lt (by simp [zNodeL])) (hne _ (by omega))))
            replace X5 := Lib.hid (X5.out.of (hgr.block _ (X5.out.lt (by simp)) (hne _ (by omega))))
            have HZ1 := HZ.out.grown hgr hob
            have NK1 : ∀ j (hj : j < ks.length) (h' : j < rws.length), _ := fun j hj h' => (NK.out j hj h').grown hgr hob
            replace hsz := Nat.le_trans hsz hgr.size
            clear NK HZ OW D hgr hob hr hne
            replace OW := Lib.hid hown
            clear hown
            have hS : Hid (BoxL U11 w.heap.size [.int .i64 op, .int .i64 pl, .string s, .int .i64 n0, .int .i64 d0, .bool uf, .int .i64 um, .int .i64 ua, .int .i64 ud, .slice (some ⟨bq, oq, none⟩) n xc]) ∧ Hid (∀ (j : Nat) (v : Value), li[j]? = some v → U11.cell? ⟨bq, oq + i * 10 + j, none⟩ = some v) := ⟨X2, (KC.out _ BB.out).1⟩
            refine hK.out _ _ ?_ (fun hHeld => ?_)
            · exact hS
            clear hK K
            try simp only [Act.put, List.setIfInBounds_toArray, List.set_cons_zero, List.set_cons_succ]
            refine tk11 (v := ?_) (by kernel_rfl) (by kernel_rfl) (by kernel_rfl) (fun _ _ _ h => h) (Or.inl ⟨by rfl, ?_⟩) hS ?_
            rotate_left
            · intro w' hSw; clear hSw; go_simp; try with_reducible rfl
            simp only [Act.put, List.setIfInBounds_toArray, List.set_cons_zero, List.set_cons_succ]
            refine wpAnyH_ready (rs := [12]) (by kernel_rfl) (by simp) (st12 (fun K hK => ?_) AllReadyH.nil)
            refine (if_pos (by kernel_rfl)).mpr ?_
            refine wp_store rfl rfl rfl (store_sl U11 (w.heap.size + 2) 9 _ _ _ _ (X5.out 9 _ rfl).1 (X5.out 9 _ rfl).2) ?_
            have hk := (Kept.refl (w.heap.size + 2) U11).setCell 9 none (.slice q' (i + 1) cq')
            replace BB := Lib.hid (below_kept BB.out hk (by omega))
            replace X2 := Lib.hid (X2.out.call (by simp) hk (by omega))
            replace X4 := Lib.hid (X4.out.call (by simp [zNodeL]) hk (by omega))
            replace X5 : Hid (BoxL _ _ [.int .i64 op, .int .i64 wp, .string s, .int .i64 n0, .int .i64 d0, .bool uf, .int .i64 um, .int .i64 ua, .int .i64 ud, .slice q' (i + 1) cq']) := Lib.hid (X5.out.set 9 (.slice q' (i + 1) cq'))
            have OW2 := own_heap OW.out (fun j e hj => hk.block j hj (by have := (OW.out.lt j e).1; omega))
            have HZ2 := HZ1.kept2 hk (by omega)
            have NK2 : ∀ j (hj : j < ks.length) (h' : j < rws.length), _ := fun j hj h' => (NK1 j hj h').kept2 hk (by omega)
            replace hsz := Nat.le_trans hsz hk.size
            clear NK1 HZ1 OW hk
            have HRL2 : Hid ((rws ++ [lz]).length = i + 1 ∧ ∀ r ∈ rws ++ [lz], r.length = 10) := ⟨by rw [List.length_append, HRL.out.1]; rfl, fun r hr => by
              rcases List.mem_append.1 hr with h | h
              · exact HRL.out.2 r h
              · rw [List.mem_singleton.1 h]; exact HL.out.1⟩
            generalize U11.setCell ⟨w.heap.size + 2, 9, none⟩ (.slice q' (i + 1) cq') = U12 at *
            rw [show rws.flatten ++ lz = (rws ++ [lz]).flatten by simp] at OW2
            have OW := Lib.hid OW2
            have NK : Hid (∀ j (hj : j < ks.length) (h' : j < (rws ++ [lz]).length), NV U12 (fun r => w.heap.size + 3 ≤ r ∧ (Value.slice q' (i + 1) cq').ownBlock ≠ some r) (shift (shW d) ks[j]) (rws ++ [lz])[j]) := fun j hj h' => by
              by_cases hjl : j < rws.length
              · rw [List.getElem_append_left hjl]; exact NK2 j hj hjl
              · have hji : j = i := by have h1 := HRL.out.1; rw [List.length_append, List.length_singleton] at h'; omega
                subst hji
                rw [List.getElem_append_right (by omega)]
                simp only [HRL.out.1, Nat.sub_self, List.getElem_cons_zero]
                exact HZ2
            clear OW2 NK2 HZ2 HRL HL
            have hS : Hid (BoxL U12 w.heap.size [.int .i64 op, .int .i64 pl, .string s, .int .i64 n0, .int .i64 d0, .bool uf, .int .i64 um, .int .i64 ua, .int .i64 ud, .slice (some ⟨bq, oq, none⟩) n xc]) ∧ Hid (∀ (j : Nat) (v : Value), li[j]? = some v → U12.cell? ⟨bq, oq + i * 10 + j, none⟩ = some v) := ⟨X2, (KC.out _ BB.out).1⟩
            refine hK.out _ _ ?_ (fun hHeld => ?_)
            · exact hS
            clear hK K
            try simp only [Act.put]
            refine wpAnyH_done (by kernel_rfl) ?_ _
            clear hS
            go_wp2_with fail
            all_goals
              go_roundg (n - (i + 1))
              case measure => omega
              case rel => exact ⟨i + 1, q', cq', rws ++ [lz], by omega, Nat.le_refl _, by simp, BB, X2, X4, X5, HRL2, OW, NK, hsz⟩
      · have hz : ¬ (i : Int) < (n : Int) := by omega
        obtain rfl : i = n := by omega
        go_wp2_with (first | ((with_reducible show wpList _ _ _ ({ dst := some 33, op := _, type := _, pos := _, after := _, guard := _ } :: _) _ _); refine wl_loadP rfl rfl rfl (load_row 32 10 (by kernel_rfl) (by kernel_rfl) _ _ [.int .i64 op, .int .i64 wp, .string s, .int .i64 n0, .int .i64 d0, .bool uf, .int .i64 um, .int .i64 ua, .int .i64 ud, .slice q i cq] rfl (fun j v hv => (X5.out j v hv).1)) ?_; simp only [Act.put, List.setIfInBounds_toArray, List.set_cons_zero, List.set_cons_succ]) | ((with_reducible show wpList _ _ _ ({ dst := none, op := Op.store _ (Operand.tmp 4) _, type := _, pos := _, after := _, guard := _ } :: _) _ _); refine wl_store rfl rfl rfl rfl (store_row 32 10 (by kernel_rfl) wr (w.heap.size + 1) zNodeL [.int .i64 op, .int .i64 wp, .string s, .int .i64 n0, .int .i64 d0, .bool uf, .int .i64 um, .int .i64 ua, .int .i64 ud, .slice q i cq] X4.out rfl rfl (by simp [Value.oneCell'])) ?_; have hk := kept_setCells (b := w.heap.size + 1) (w := wr) [.int .i64 op, .int .i64 wp, .string s, .int .i64 n0, .int .i64 d0, .bool uf, .int .i64 um, .int .i64 ua, .int .i64 ud, .slice q i cq] 0 wr (Kept.refl _ _); replace BB := Lib.hid (below_kept BB.out hk (by omega)); replace X4 := Lib.hid (X4.out.cells (L := [.int .i64 op, .int .i64 wp, .string s, .int .i64 n0, .int .i64 d0, .bool uf, .int .i64 um, .int .i64 ua, .int .i64 ud, .slice q i cq]) rfl); have OW2 := Lib.hid (own_heap OW.out (fun j e hj => hk.block j hj (by have := (OW.out.lt j e).1; omega))); have NK2 : Hid (∀ j (hj : j < ks.length) (h' : j < rws.length), NV (wr.setCells (w.heap.size + 1) 0 [.int .i64 op, .int .i64 wp, .string s, .int .i64 n0, .int .i64 d0, .bool uf, .int .i64 um, .int .i64 ua, .int .i64 ud, .slice q i cq]) (fun r => w.heap.size + 3 ≤ r ∧ (Value.slice q i cq).ownBlock ≠ some r) (shift (shW d) ks[j]) rws[j]) := fun j hj h' => (NK.out j hj h').kept2 hk (by omega); clear hk OW NK X2 X5; simp only [Act.put]; generalize wr.setCells (w.heap.size + 1) 0 [.int .i64 op, .int .i64 wp, .string s, .int .i64 n0, .int .i64 d0, .bool uf, .int .i64 um, .int .i64 ua, .int .i64 ud, .slice q i cq] = F at *; obtain ⟨r0, r1, r2, r3, r4, r5, r6, r7, r8, r9⟩ := box10 X4.out))
        exact bodyPost_ret (v := .agg ([.int .i64 op, .int .i64 wp, .string s, .int .i64 n0, .int .i64 d0, .bool uf, .int .i64 um, .int .i64 ua, .int .i64 ud, .slice q i cq] : List Value).toArray) (by simp [results, Try.results20, go_sem, r0, r1, r2, r3, r4, r5, r6, r7, r8, r9]) rfl ⟨⟨q, cq⟩, by rw [HV.out]; rw [← HNN.out], HF.out F _ q cq rws (by rw [HRL.out.1, HNN.out]) (fun b hb => by have := hb.1; omega) (fun h0 => by
          have h1 := OW2.out
          rw [show i = rws.length from HRL.out.1.symm] at h1
          obtain ⟨g, cap, e, h2, h3, h4, _, h6⟩ := own_rows h1 HRL.out.2 (by rw [HRL.out.1, HNN.out]; exact h0)
          injection e with e1 _ _
          exact ⟨g, e1, by omega, h4, h6⟩) NK2.out, BB.out⟩
end Go.Proofs.Ytjifiijgghpniaa
/-
  The walk of the law on offsets.
-/
namespace Go.Proofs.Ytjifiijgghpniaa
open Go.RowKit Un MapKept

def sSpare : List UInt8 := [115, 112, 97, 114, 101]
/-- The further declaration. -/
def dSpare : Dc := ⟨sSpare, uNum, 0, 0, 0⟩
theorem build_spare (w : World) : (Instr.build 47 #[(0, .string ⟨#[115, 112, 97, 114, 101]⟩)]).run Try.prog w = .ok (.agg ([.string ⟨#[115, 112, 97, 114, 101]⟩, .bool false, .int .i64 0, .int .i64 0, .int .i64 0, .int .i64 0, .int .i64 0, .int .i64 0] : List Value).toArray) w := by kernel_rfl
theorem slice_spare (w : World) : (Instr.buildSlice 22 1 #[(0, .agg ([.string ⟨#[115, 112, 97, 114, 101]⟩, .bool false, .int .i64 0, .int .i64 0, .int .i64 0, .int .i64 0, .int .i64 0, .int .i64 0] : List Value).toArray)]).run Try.prog w = .ok (.slice (some ⟨w.heap.size, 0, none⟩) 1 1) (w.alloc (.cells ([.string ⟨#[115, 112, 97, 114, 101]⟩, .bool false, .int .i64 0, .int .i64 0, .int .i64 0, .int .i64 0, .int .i64 0, .int .i64 0] : List Value).toArray 47)) := by kernel_rfl
/-- Declarations are copied. -/
theorem copy_decls (w : World) (p : Option Addr) (b off c : Nat) (L : List Dc) (hL : L.length ≤ 1000) (hS : SlR w p b off L.length 8 (L.map dC)) :
    ∃ q cq w', (Builtin.append_ #[22, 22] 22 #[.slice (some ⟨w.heap.size, 0, none⟩) 0 0, .slice p L.length c]).run Try.prog (w.alloc (.cells #[] 47)) = .ok (.slice q L.length cq) w' ∧ w'.ownsRow w.heap.size 47 8 (.slice q L.length cq) L.length (L.map dC).flatten ∧ RowKit.Below w.heap.size w w' := by
  have b1 := (Below.refl w.heap.size w).alloc (Nat.le_refl _) (.cells #[] 47)
  have hlen : ∀ r ∈ L.map dC, r.length = 8 := fun r hr => by obtain ⟨d, -, rfl⟩ := List.mem_map.1 hr; rfl
  have hS1 := hS.bel b1
  obtain ⟨f1, f2⟩ := flat_at 8 (by omega) (L.map dC) hlen (w := w.alloc (.cells #[] 47)) (b := b) (o := off) (fun i r hr j v hv => (hS1.at_ i r hr).2 j v hv)
  rw [List.length_map] at f1
  obtain ⟨q', c', w', hr, ho, hg, -⟩ := own_cat 22 47 8 Try.underlying22 info_Dc (by omega) (w.alloc (.cells #[] 47)) w.heap.size 22 _ 0 0 [] (own_new w w.heap.size _ _ (Nat.le_refl _)) p L.length c (L.map dC).flatten (fun h0 => ⟨b, off, hS.ptr h0, f2⟩) f1 (fun u hu => by
    obtain ⟨r, hr, hu⟩ := List.mem_flatten.1 hu
    obtain ⟨d, -, rfl⟩ := List.mem_map.1 hr
    simp only [dC, List.mem_cons, List.not_mem_nil, or_false] at hu
    rcases hu with rfl | rfl | rfl | rfl | rfl | rfl | rfl | rfl <;> rfl) (by omega) b1.size
  rw [Nat.zero_add] at hr ho
  rw [List.nil_append] at ho
  refine ⟨q', c', w', hr, ho, b1.trans ⟨hg.os, hg.tape, hg.output, hg.size, fun k hk => hg.block k (Nat.lt_of_lt_of_le hk b1.size) (fun e => ?_)⟩⟩
  simp only [Value.ownBlock, Option.some.injEq] at e
  omega
/-- A further declaration is appended. -/
theorem app_spare (w : World) (base : Nat) (q : Option Addr) (cq : Nat) (L : List Dc) (hL : L.length ≤ 1000) (ho : w.ownsRow base 47 8 (.slice q L.length cq) L.length (L.map dC).flatten) (hb : base ≤ w.heap.size) :
    ∃ q' cq' w' b', (Builtin.append_ #[22, 22] 22 #[.slice q L.length cq, .slice (some ⟨w.heap.size, 0, none⟩) 1 1]).run Try.prog (w.alloc (.cells ([.string ⟨#[115, 112, 97, 114, 101]⟩, .bool false, .int .i64 0, .int .i64 0, .int .i64 0, .int .i64 0, .int .i64 0, .int .i64 0] : List Value).toArray 47)) = .ok (.slice q' (L ++ [dSpare]).length cq') w' ∧ SlR w' q' b' 0 (L ++ [dSpare]).length 8 ((L ++ [dSpare]).map dC) ∧ ∀ W0 : World, W0.heap.size = base → RowKit.Below base W0 w → RowKit.Below base W0 w' := by
  have b1 := (Below.refl w.heap.size w).alloc (Nat.le_refl _) (.cells ([.string ⟨#[115, 112, 97, 114, 101]⟩, .bool false, .int .i64 0, .int .i64 0, .int .i64 0, .int .i64 0, .int .i64 0, .int .i64 0] : List Value).toArray 47)
  have D := BoxL.new w [.string ⟨#[115, 112, 97, 114, 101]⟩, .bool false, .int .i64 0, .int .i64 0, .int .i64 0, .int .i64 0, .int .i64 0, .int .i64 0] 47
  have ho1 := own_heap ho (fun j _ hj => b1.block j hj)
  obtain ⟨v', w', hr, hown, hgr, -⟩ := run_app1 22 47 8 Try.underlying22 info_Dc (by omega) _ base 22 _ _ _ ho1 w.heap.size (dC dSpare) rfl (fun j u hu => (D j u hu).1) (by simp [dC, Value.oneCell']) (by omega) (Nat.le_trans hb b1.size)
  obtain ⟨q', cq', rfl⟩ := own_slice hown
  have e1 : (L.map dC).flatten ++ dC dSpare = ((L ++ [dSpare]).map dC).flatten := by simp
  have e2 : L.length + 1 = ((L ++ [dSpare]).map dC).length := by simp
  rw [e1, e2] at hown
  obtain ⟨p, b', cap, e, hs⟩ := own_slr hown (fun r hr => by obtain ⟨d, -, rfl⟩ := List.mem_map.1 hr; rfl)
  injection e with e3 _ e4
  subst e3 e4
  rw [List.length_map] at hs
  refine ⟨_, _, w', b', by rw [hr, List.length_append]; rfl, hs, fun W0 h0 hB => ?_⟩
  have hB1 := hB.trans (b1.mono hb)
  subst h0
  exact below_grown hB1 hgr (fun j e => (ho1.lt j e).1)
theorem ofV_shift {L : List Dc} {t : Nd} (W : Int → Int) (h : (rightD L && form vld t) = true) : ofV vld L (shift W t) = (ofV vld L t).shift W := by
  rw [Bool.and_eq_true] at h
  unfold ofV
  rw [form_shift, h.1, h.2]
  exact fnd_shift W t
theorem ofV_more {L : List Dc} {t : Nd} (h : (rightD L && form vld t) = true) (hm : mentions sSpare t = false) (hr : rightD (L ++ [dSpare]) = true) : ofV vld (L ++ [dSpare]) t = ofV vld L t := by
  rw [Bool.and_eq_true] at h
  unfold ofV
  rw [hr, h.1, h.2]
  have e : Un.facts (L ++ [dSpare]) = Un.facts L ++ [(sSpare, uNum)] := by simp [Un.facts, dSpare]
  rw [e]
  exact fnd_more sSpare uNum t hm
set_option maxRecDepth 100000 in
set_option maxHeartbeats 12000000 in
theorem offsets_law (L : List Dc) (t : Nd) (hn : nin t) (p : Option Addr) (b off c : Nat) (x : Kd) (a : Int) (ha : -32768 ≤ a ∧ a ≤ 32767) (w : World) (hS : SlR w p b off L.length 8 (L.map dC)) (hx : NdM w (fun _ => True) t x) :
    Calls Try.prog 4 #[.slice p L.length c, nV t x, .int .i16 a] w fun e w' => e = .returned (.bool true) ∧ RowKit.Below w.heap.size w w' := by
  obtain ⟨ln, hln⟩ : ∃ l, l = nC t x := ⟨_, rfl⟩
  have NT : NV w (fun _ => True) t ln := ⟨x, hln, hx⟩
  have KF := Lib.hid (fun V (hV : RowKit.Below w.heap.size w V) => few_nv t _ ln V (NT.bel hV))
  have KV := Lib.hid (fun V (hV : RowKit.Below w.heap.size w V) => valid_nv L t hn p b off c _ ln V (hS.bel hV) (NT.bel hV))
  have KO := Lib.hid (fun V (hV : RowKit.Below w.heap.size w V) => of_nv L t hn p b off c _ ln V (hS.bel hV) (NT.bel hV))
  have KS : Hid ((rightD L && form vld t) = true → ∀ V, RowKit.Below w.heap.size w V → Calls Try.prog 20 #[.agg ln.toArray, .int .i64 a] V fun e w' => ∃ lz, e = .returned (.agg lz.toArray) ∧ Hid (NV w' (fun _ => True) (shift (shW a) t) lz) ∧ RowKit.Below V.heap.size V w') := fun hr V hV => by
    rw [Bool.and_eq_true] at hr
    have hw := hr.2
    simp only [form, Bool.and_eq_true] at hw
    have hx1 := NdM.bel hV hx
    rw [hln]
    refine (lshifted_any a (size t) t (Nat.le_refl _) 20 hw.1 x V hx1).mono ?_
    rintro e w' ⟨y, rfl, hz, hb⟩
    exact ⟨_, rfl, ⟨y, rfl, NdM.keep (Nat.le_refl _) (fun _ _ _ => rfl) (fun _ _ _ => trivial) _ _ hz⟩, hb⟩
  have KOS := Lib.hid (fun V l (hV : RowKit.Below w.heap.size w V) (h : NV V (fun _ => True) (shift (shW a) t) l) => of_nv L (shift (shW a) t) (nin_shift _ t hn) p b off c _ l V (hS.bel hV) h)
  have HS : Hid ((rightD L && form vld t) = true → ofV vld L (shift (shW a) t) = (ofV vld L t).shift (shW a)) := fun h => ofV_shift _ h
  have KM : Hid (∀ V, RowKit.Below w.heap.size w V → Calls Try.prog 21 #[.agg ln.toArray, .string ⟨#[115, 112, 97, 114, 101]⟩] V fun e w' => e = .returned (.bool (mentions sSpare t)) ∧ RowKit.Below V.heap.size V w') := fun V hV => by
    rw [hln]
    exact lmentions_any (size t) t (Nat.le_refl _) _ x sSpare V (NdM.bel hV hx)
  have KC := Lib.hid (fun (hL : L.length ≤ 1000) V (hV : RowKit.Below w.heap.size w V) => copy_decls V p b off c L hL (hS.bel hV))
  have KA := Lib.hid (fun (hL : L.length ≤ 1000) V base q cq => app_spare V base q cq L hL)
  have KD := Lib.hid (fun q b' cq V (h : SlR V q b' 0 (L ++ [dSpare]).length 8 ((L ++ [dSpare]).map dC)) => rDecls_any (L ++ [dSpare]) q b' 0 cq V h)
  have KOM := Lib.hid (fun q b' cq V (hV : RowKit.Below w.heap.size w V) (h : SlR V q b' 0 (L ++ [dSpare]).length 8 ((L ++ [dSpare]).map dC)) => of_nv (L ++ [dSpare]) t hn q b' 0 cq _ ln V h (NT.bel hV))
  have HM : Hid ((rightD L && form vld t) = true → mentions sSpare t = false → rightD (L ++ [dSpare]) = true → ofV vld (L ++ [dSpare]) t = ofV vld L t) := fun h1 h2 h3 => ofV_more h1 h2 h3
  have HNE : Hid (∀ e q, ofV vld L t = .er e q → e ≠ 0) := fun e q h => ofV_ne h
  have hv1 : nV t x = .agg ln.toArray := by rw [hln]; rfl
  have hl1 : ln.length = 10 := by rw [hln]; exact nC_len t x
  rw [hv1]
  clear hv1 hln hx hn NT
  have hmx := hS.max
  clear hS
  generalize ofV vld L (shift (shW a) t) = gs at *
  generalize ofV vld (L ++ [dSpare]) t = gm at *
  generalize ofV vld L t = g1 at *
  generalize (rightD L && form vld t) = rv at *
  generalize rightD (L ++ [dSpare]) = rm at *
  generalize mentions sSpare t = me at *
  generalize decide (0 ≤ left 30 400 t) = f1 at *
  generalize (L ++ [dSpare]).map dC = rows2 at *
  generalize (L ++ [dSpare]).length = m2 at *
  generalize (L.map dC).flatten = rows1 at *
  generalize L.length = m at *
  have ewa : IntKind.i64.wrap a = a := IntWalk.i64_in _ (by omega)
  have a1 := (Below.refl w.heap.size w).alloc (Nat.le_refl _) (.cells ln.toArray 32)
  have X1 := Lib.hid (BoxL.new w ln 32)
  have hp1 : 0 < ln.length := by omega
  have BB := Lib.hid a1
  clear a1
  go_enter Try.func4, Try.ntmps4
  go_wp2_with fail
  generalize w.alloc (.cells ln.toArray 32) = W1 at *
  refine (lhead_any _).mono ?_
  rintro _ V1 ⟨rfl, hb⟩
  replace BB := Lib.hid (BB.out.trans (hb.mono BB.out.size))
  replace X1 := Lib.hid (X1.out.bel hp1 hb)
  clear hb
  by_cases hL : 20 < m
  · have hz : (20 : Int) < (m : Int) := by omega
    go_wp2_with fail
    go_ret
    exact ⟨rfl, BB.out⟩
  have hz : ¬ (20 : Int) < (m : Int) := by omega
  have hd : decide ((20 : Int) < (m : Int)) = false := decide_eq_false hz
  replace KC := Lib.hid (KC.out (by omega))
  replace KA := Lib.hid (KA.out (by omega))
  go_wp2_with ((with_reducible show wpList _ _ _ ({ dst := some 23, op := _, type := _, pos := _, after := _, guard := _ } :: _) _ _); refine wl_loadG (by first | rfl | (rw [hd]; rfl) | (simp [Region.wanted, yielded, hd]; done)) rfl rfl (load_row 32 10 (by kernel_rfl) (by kernel_rfl) _ _ ln hl1 (fun j v hv => (X1.out j v hv).1)) ?_; simp only [Act.put, List.setIfInBounds_toArray, List.set_cons_zero, List.set_cons_succ])
  refine (KF.out _ BB.out).mono ?_
  rintro _ V2 ⟨rfl, hb⟩
  replace BB := Lib.hid (BB.out.trans (hb.mono BB.out.size))
  replace X1 := Lib.hid (X1.out.bel hp1 hb)
  clear hb KF
  cases f1 with
  | false =>
    go_wp2_with fail
    go_ret
    exact ⟨rfl, BB.out⟩
  | true =>
    go_wp2_with ((with_reducible show wpList _ _ _ ({ dst := some 29, op := _, type := _, pos := _, after := _, guard := _ } :: _) _ _); refine wl_loadG (by first | rfl | (rw [hd]; rfl) | (simp [Region.wanted, yielded, hd]; done)) rfl rfl (load_row 32 10 (by kernel_rfl) (by kernel_rfl) _ _ ln hl1 (fun j v hv => (X1.out j v hv).1)) ?_; simp only [Act.put, List.setIfInBounds_toArray, List.set_cons_zero, List.set_cons_succ])
    refine (KV.out _ BB.out).mono ?_
    rintro _ V3 ⟨rfl, hb⟩
    replace BB := Lib.hid (BB.out.trans (hb.mono BB.out.size))
    replace X1 := Lib.hid (X1.out.bel hp1 hb)
    clear hb KV
    cases rv with
    | false =>
      go_wp2_with fail
      go_ret
      exact ⟨rfl, BB.out⟩
    | true =>
      replace KS := Lib.hid (KS.out rfl)
      have hgs := HS.out rfl
      subst hgs
      replace HM := Lib.hid (HM.out rfl)
      clear HS
      cases g1 with
      | er E q =>
        have hE : E ≠ 0 := HNE.out E q rfl
        have hEb : (E == 0) = false := beq_eq_false_iff_ne.2 hE
        clear HNE
        go_wp2_with ((with_reducible show wpList _ _ _ ({ dst := some 36, op := _, type := _, pos := _, after := _, guard := _ } :: _) _ _); refine wl_loadP rfl rfl rfl (load_row 32 10 (by kernel_rfl) (by kernel_rfl) _ _ ln hl1 (fun j v hv => (X1.out j v hv).1)) ?_; simp only [Act.put, List.setIfInBounds_toArray, List.set_cons_zero, List.set_cons_succ])
        refine (KO.out _ BB.out).mono ?_
        rintro _ V4 ⟨he, hb⟩
        replace he : _ = Ending.returned (.tuple #[.agg (uC uNum).toArray, .int .i64 E, .int .i64 q]) := he
        subst he
        replace BB := Lib.hid (BB.out.trans (hb.mono BB.out.size))
        replace X1 := Lib.hid (X1.out.bel hp1 hb)
        clear hb KO
        obtain ⟨b8, hb8⟩ : ∃ b, b = V4.heap.size := ⟨_, rfl⟩
        go_wp2_with (first | ((with_reducible show wpList _ _ _ ({ dst := some 8, op := _, type := _, pos := _, after := _, guard := _ } :: _) _ _); refine wl_ubox (L := (uC uNum)) rfl rfl rfl rfl rfl (by simp [uC, Value.oneCell']) rfl rfl ?_; intro V5 hb hs hx; replace BB := Lib.hid (BB.out.trans (hb.mono BB.out.size)); replace X1 := Lib.hid (X1.out.bel hp1 hb); have X8 := Lib.hid hx; clear hb hx hs; simp only [Act.put, List.setIfInBounds_toArray, List.set_cons_zero, List.set_cons_succ]; rw [← hb8] at X8 ⊢; clear hb8) | ((with_reducible show wpList _ _ _ ({ dst := some 43, op := _, type := _, pos := _, after := _, guard := _ } :: _) _ _); refine wl_loadP rfl rfl rfl (load_row 32 10 (by kernel_rfl) (by kernel_rfl) _ _ ln hl1 (fun j v hv => (X1.out j v hv).1)) ?_; simp only [Act.put, List.setIfInBounds_toArray, List.set_cons_zero, List.set_cons_succ]))
        refine (KS.out _ BB.out).mono ?_
        rintro _ V6 ⟨lz, rfl, NZ, hb⟩
        replace BB := Lib.hid (BB.out.trans (hb.mono BB.out.size))
        replace X1 := Lib.hid (X1.out.bel hp1 hb)
        replace X8 := Lib.hid (X8.out.bel (by simp [uC]) hb)
        clear hb KS
        go_wp2_with fail
        refine (KOS.out _ lz BB.out NZ.out).mono ?_
        rintro _ V7 ⟨he, hb⟩
        replace he : _ = Ending.returned (.tuple #[.agg (uC uNum).toArray, .int .i64 E, .int .i64 (shW a q)]) := he
        subst he
        replace BB := Lib.hid (BB.out.trans (hb.mono BB.out.size))
        replace X1 := Lib.hid (X1.out.bel hp1 hb)
        replace X8 := Lib.hid (X8.out.bel (by simp [uC]) hb)
        clear hb KOS NZ
        obtain ⟨b11, hb11⟩ : ∃ b, b = V7.heap.size := ⟨_, rfl⟩
        have hsh : IntKind.i64.wrap (q + a) = shW a q := rfl
        go_wp2_with (first | ((with_reducible show wpList _ _ _ ({ dst := some 11, op := _, type := _, pos := _, after := _, guard := _ } :: _) _ _); refine wl_ubox (L := (uC uNum)) rfl rfl rfl rfl rfl (by simp [uC, Value.oneCell']) rfl rfl ?_; intro V8 hb hs hx; replace BB := Lib.hid (BB.out.trans (hb.mono BB.out.size)); replace X1 := Lib.hid (X1.out.bel hp1 hb); replace X8 := Lib.hid (X8.out.bel (by simp [uC]) hb); have X11 := Lib.hid hx; clear hb hx hs; simp only [Act.put, List.setIfInBounds_toArray, List.set_cons_zero, List.set_cons_succ]; rw [← hb11] at X11 ⊢; clear hb11) | ((with_reducible show wpList _ _ _ ({ dst := some 51, op := _, type := _, pos := _, after := _, guard := _ } :: _) _ _); refine wl_loadP rfl rfl rfl (load_row 29 4 (by kernel_rfl) (by kernel_rfl) _ _ (uC uNum) rfl (fun j v hv => (X8.out j v hv).1)) ?_; simp only [Act.put, List.setIfInBounds_toArray, List.set_cons_zero, List.set_cons_succ]) | ((with_reducible show wpList _ _ _ ({ dst := some 52, op := _, type := _, pos := _, after := _, guard := _ } :: _) _ _); refine wl_loadP rfl rfl rfl (load_row 29 4 (by kernel_rfl) (by kernel_rfl) _ _ (uC uNum) rfl (fun j v hv => (X11.out j v hv).1)) ?_; simp only [Act.put, List.setIfInBounds_toArray, List.set_cons_zero, List.set_cons_succ]) | ((with_reducible show wpList _ _ _ ({ dst := some 53, op := _, type := _, pos := _, after := _, guard := _ } :: _) _ _); refine wl_ex (by first | rfl | (simp [Region.wanted, yielded]; done)) (ex_neU (u := uNum) (v := uNum) rfl rfl rfl _) ?_; simp only [Act.put, List.setIfInBounds_toArray, List.set_cons_zero, List.set_cons_succ]; (first | rw [decide_eq_true (show uNum = uNum from rfl)] | simp only [decide_true] | skip)) | ((with_reducible show wpList _ _ _ ({ dst := some 83, op := _, type := _, pos := _, after := _, guard := _ } :: _) _ _); obtain ⟨qd, cd, V9, hrun, hown, hbc⟩ := KC.out V8 BB.out; refine wl_slice0 rfl rfl (slice0_D V8) ?_; simp only [Act.put, List.setIfInBounds_toArray, List.set_cons_zero, List.set_cons_succ]) | ((with_reducible show wpList _ _ _ ({ dst := some 85, op := _, type := _, pos := _, after := _, guard := _ } :: _) _ _); refine wl_app _ _ rfl rfl rfl rfl hrun ?_; simp only [Act.put, List.setIfInBounds_toArray, List.set_cons_zero, List.set_cons_succ]; have hbs := hbc.size; clear hrun) | ((with_reducible show wpList _ _ _ ({ dst := some 86, op := _, type := _, pos := _, after := _, guard := _ } :: _) _ _); refine wl_build rfl rfl (build_spare _) ?_; simp only [Act.put, List.setIfInBounds_toArray, List.set_cons_zero, List.set_cons_succ]) | ((with_reducible show wpList _ _ _ ({ dst := some 87, op := _, type := _, pos := _, after := _, guard := _ } :: _) _ _); obtain ⟨q2, c2, VA, b2, hrun, hS2, hbb⟩ := KA.out V9 V8.heap.size qd cd hown hbs; refine wl_sliceP rfl rfl rfl (slice_spare V9) ?_; simp only [Act.put, List.setIfInBounds_toArray, List.set_cons_zero, List.set_cons_succ]) | ((with_reducible show wpList _ _ _ ({ dst := some 88, op := _, type := _, pos := _, after := _, guard := _ } :: _) _ _); refine wl_app _ _ rfl rfl rfl rfl hrun ?_; simp only [Act.put, List.setIfInBounds_toArray, List.set_cons_zero, List.set_cons_succ]; have hb := hbb V8 rfl hbc; replace BB := Lib.hid (BB.out.trans (hb.mono BB.out.size)); replace X1 := Lib.hid (X1.out.bel hp1 hb); replace X8 := Lib.hid (X8.out.bel (by simp [uC]) hb); have SM := Lib.hid hS2; clear hb hbb hbc hbs hown hS2 hrun) | ((with_reducible show wpList _ _ _ ({ dst := some 89, op := _, type := _, pos := _, after := _, guard := _ } :: _) _ _); refine wl_loadP rfl rfl rfl (load_row 32 10 (by kernel_rfl) (by kernel_rfl) _ _ ln hl1 (fun j v hv => (X1.out j v hv).1)) ?_; simp only [Act.put, List.setIfInBounds_toArray, List.set_cons_zero, List.set_cons_succ]))
        clear KC KA
        refine (KM.out _ BB.out).mono ?_
        rintro _ VB ⟨rfl, hb⟩
        replace SM := Lib.hid (SM.out.bel hb)
        replace BB := Lib.hid (BB.out.trans (hb.mono BB.out.size))
        replace X1 := Lib.hid (X1.out.bel hp1 hb)
        replace X8 := Lib.hid (X8.out.bel (by simp [uC]) hb)
        clear hb KM
        cases me with
        | true =>
          go_wp2_with fail
          go_ret
          exact ⟨rfl, BB.out⟩
        | false =>
          go_wp2_with fail
          refine (KD.out _ _ c2 _ SM.out).mono ?_
          rintro _ VC ⟨rfl, hb⟩
          replace SM := Lib.hid (SM.out.bel hb)
          replace BB := Lib.hid (BB.out.trans (hb.mono BB.out.size))
          replace X1 := Lib.hid (X1.out.bel hp1 hb)
          replace X8 := Lib.hid (X8.out.bel (by simp [uC]) hb)
          clear hb KD
          cases rm with
          | false =>
            go_wp2_with fail
            go_ret
            exact ⟨rfl, BB.out⟩
          | true =>
            have hgm := HM.out (by first | rfl | trivial) (by first | rfl | trivial)
            subst hgm
            clear HM
            go_wp2_with ((with_reducible show wpList _ _ _ ({ dst := some 99, op := _, type := _, pos := _, after := _, guard := _ } :: _) _ _); refine wl_loadP rfl rfl rfl (load_row 32 10 (by kernel_rfl) (by kernel_rfl) _ _ ln hl1 (fun j v hv => (X1.out j v hv).1)) ?_; simp only [Act.put, List.setIfInBounds_toArray, List.set_cons_zero, List.set_cons_succ])
            refine (KOM.out _ _ c2 _ BB.out SM.out).mono ?_
            rintro _ VD ⟨he, hb⟩
            replace he : _ = Ending.returned (.tuple #[.agg (uC uNum).toArray, .int .i64 E, .int .i64 q]) := he
            subst he
            replace BB := Lib.hid (BB.out.trans (hb.mono BB.out.size))
            replace X1 := Lib.hid (X1.out.bel hp1 hb)
            replace X8 := Lib.hid (X8.out.bel (by simp [uC]) hb)
            clear hb KOM SM
            obtain ⟨b15, hb15⟩ : ∃ b, b = VD.heap.size := ⟨_, rfl⟩
            go_wp2_with (first | ((with_reducible show wpList _ _ _ ({ dst := some 15, op := _, type := _, pos := _, after := _, guard := _ } :: _) _ _); refine wl_ubox (L := (uC uNum)) rfl rfl rfl rfl rfl (by simp [uC, Value.oneCell']) rfl rfl ?_; intro VE hb hs hx; replace BB := Lib.hid (BB.out.trans (hb.mono BB.out.size)); replace X1 := Lib.hid (X1.out.bel hp1 hb); replace X8 := Lib.hid (X8.out.bel (by simp [uC]) hb); have X15 := Lib.hid hx; clear hb hx hs; simp only [Act.put, List.setIfInBounds_toArray, List.set_cons_zero, List.set_cons_succ]; rw [← hb15] at X15 ⊢; clear hb15) | ((with_reducible show wpList _ _ _ ({ dst := some 106, op := _, type := _, pos := _, after := _, guard := _ } :: _) _ _); refine wl_loadG (by first | rfl | (rw [hd]; rfl) | (simp [Region.wanted, yielded, hd]; done)) rfl rfl (load_row 29 4 (by kernel_rfl) (by kernel_rfl) _ _ (uC uNum) rfl (fun j v hv => (X15.out j v hv).1)) ?_; simp only [Act.put, List.setIfInBounds_toArray, List.set_cons_zero, List.set_cons_succ]) | ((with_reducible show wpList _ _ _ ({ dst := some 107, op := _, type := _, pos := _, after := _, guard := _ } :: _) _ _); refine wl_loadG (by first | rfl | (rw [hd]; rfl) | (simp [Region.wanted, yielded, hd]; done)) rfl rfl (load_row 29 4 (by kernel_rfl) (by kernel_rfl) _ _ (uC uNum) rfl (fun j v hv => (X8.out j v hv).1)) ?_; simp only [Act.put, List.setIfInBounds_toArray, List.set_cons_zero, List.set_cons_succ]) | ((with_reducible show wpList _ _ _ ({ dst := some 108, op := _, type := _, pos := _, after := _, guard := _ } :: _) _ _); refine wl_ex (by first | rfl | (simp [Region.wanted, yielded]; done)) (ex_eqU (u := uNum) (v := uNum) rfl rfl rfl _) ?_; simp only [Act.put, List.setIfInBounds_toArray, List.set_cons_zero, List.set_cons_succ]; (first | rw [decide_eq_true (show uNum = uNum from rfl)] | simp only [decide_true] | skip)))
            go_ret
            exact ⟨rfl, BB.out⟩
      | ok u =>
        clear HNE
        go_wp2_with ((with_reducible show wpList _ _ _ ({ dst := some 36, op := _, type := _, pos := _, after := _, guard := _ } :: _) _ _); refine wl_loadP rfl rfl rfl (load_row 32 10 (by kernel_rfl) (by kernel_rfl) _ _ ln hl1 (fun j v hv => (X1.out j v hv).1)) ?_; simp only [Act.put, List.setIfInBounds_toArray, List.set_cons_zero, List.set_cons_succ])
        refine (KO.out _ BB.out).mono ?_
        rintro _ V4 ⟨he, hb⟩
        replace he : _ = Ending.returned (.tuple #[.agg (uC u).toArray, .int .i64 0, .int .i64 0]) := he
        subst he
        replace BB := Lib.hid (BB.out.trans (hb.mono BB.out.size))
        replace X1 := Lib.hid (X1.out.bel hp1 hb)
        clear hb KO
        obtain ⟨b8, hb8⟩ : ∃ b, b = V4.heap.size := ⟨_, rfl⟩
        go_wp2_with (first | ((with_reducible show wpList _ _ _ ({ dst := some 8, op := _, type := _, pos := _, after := _, guard := _ } :: _) _ _); refine wl_ubox (L := (uC u)) rfl rfl rfl rfl rfl (by simp [uC, Value.oneCell']) rfl rfl ?_; intro V5 hb hs hx; replace BB := Lib.hid (BB.out.trans (hb.mono BB.out.size)); replace X1 := Lib.hid (X1.out.bel hp1 hb); have X8 := Lib.hid hx; clear hb hx hs; simp only [Act.put, List.setIfInBounds_toArray, List.set_cons_zero, List.set_cons_succ]; rw [← hb8] at X8 ⊢; clear hb8) | ((with_reducible show wpList _ _ _ ({ dst := some 43, op := _, type := _, pos := _, after := _, guard := _ } :: _) _ _); refine wl_loadP rfl rfl rfl (load_row 32 10 (by kernel_rfl) (by kernel_rfl) _ _ ln hl1 (fun j v hv => (X1.out j v hv).1)) ?_; simp only [Act.put, List.setIfInBounds_toArray, List.set_cons_zero, List.set_cons_succ]))
        refine (KS.out _ BB.out).mono ?_
        rintro _ V6 ⟨lz, rfl, NZ, hb⟩
        replace BB := Lib.hid (BB.out.trans (hb.mono BB.out.size))
        replace X1 := Lib.hid (X1.out.bel hp1 hb)
        replace X8 := Lib.hid (X8.out.bel (by simp [uC]) hb)
        clear hb KS
        go_wp2_with fail
        refine (KOS.out _ lz BB.out NZ.out).mono ?_
        rintro _ V7 ⟨he, hb⟩
        replace he : _ = Ending.returned (.tuple #[.agg (uC u).toArray, .int .i64 0, .int .i64 0]) := he
        subst he
        replace BB := Lib.hid (BB.out.trans (hb.mono BB.out.size))
        replace X1 := Lib.hid (X1.out.bel hp1 hb)
        replace X8 := Lib.hid (X8.out.bel (by simp [uC]) hb)
        clear hb KOS NZ
        obtain ⟨b11, hb11⟩ : ∃ b, b = V7.heap.size := ⟨_, rfl⟩
        go_wp2_with (first | ((with_reducible show wpList _ _ _ ({ dst := some 11, op := _, type := _, pos := _, after := _, guard := _ } :: _) _ _); refine wl_ubox (L := (uC u)) rfl rfl rfl rfl rfl (by simp [uC, Value.oneCell']) rfl rfl ?_; intro V8 hb hs hx; replace BB := Lib.hid (BB.out.trans (hb.mono BB.out.size)); replace X1 := Lib.hid (X1.out.bel hp1 hb); replace X8 := Lib.hid (X8.out.bel (by simp [uC]) hb); have X11 := Lib.hid hx; clear hb hx hs; simp only [Act.put, List.setIfInBounds_toArray, List.set_cons_zero, List.set_cons_succ]; rw [← hb11] at X11 ⊢; clear hb11) | ((with_reducible show wpList _ _ _ ({ dst := some 51, op := _, type := _, pos := _, after := _, guard := _ } :: _) _ _); refine wl_loadP rfl rfl rfl (load_row 29 4 (by kernel_rfl) (by kernel_rfl) _ _ (uC u) rfl (fun j v hv => (X8.out j v hv).1)) ?_; simp only [Act.put, List.setIfInBounds_toArray, List.set_cons_zero, List.set_cons_succ]) | ((with_reducible show wpList _ _ _ ({ dst := some 52, op := _, type := _, pos := _, after := _, guard := _ } :: _) _ _); refine wl_loadP rfl rfl rfl (load_row 29 4 (by kernel_rfl) (by kernel_rfl) _ _ (uC u) rfl (fun j v hv => (X11.out j v hv).1)) ?_; simp only [Act.put, List.setIfInBounds_toArray, List.set_cons_zero, List.set_cons_succ]) | ((with_reducible show wpList _ _ _ ({ dst := some 53, op := _, type := _, pos := _, after := _, guard := _ } :: _) _ _); refine wl_ex (by first | rfl | (simp [Region.wanted, yielded]; done)) (ex_neU (u := u) (v := u) rfl rfl rfl _) ?_; simp only [Act.put, List.setIfInBounds_toArray, List.set_cons_zero, List.set_cons_succ]; (first | rw [decide_eq_true (show u = u from rfl)] | simp only [decide_true] | skip)) | ((with_reducible show wpList _ _ _ ({ dst := some 83, op := _, type := _, pos := _, after := _, guard := _ } :: _) _ _); obtain ⟨qd, cd, V9, hrun, hown, hbc⟩ := KC.out V8 BB.out; refine wl_slice0 rfl rfl (slice0_D V8) ?_; simp only [Act.put, List.setIfInBounds_toArray, List.set_cons_zero, List.set_cons_succ]) | ((with_reducible show wpList _ _ _ ({ dst := some 85, op := _, type := _, pos := _, after := _, guard := _ } :: _) _ _); refine wl_app _ _ rfl rfl rfl rfl hrun ?_; simp only [Act.put, List.setIfInBounds_toArray, List.set_cons_zero, List.set_cons_succ]; have hbs := hbc.size; clear hrun) | ((with_reducible show wpList _ _ _ ({ dst := some 86, op := _, type := _, pos := _, after := _, guard := _ } :: _) _ _); refine wl_build rfl rfl (build_spare _) ?_; simp only [Act.put, List.setIfInBounds_toArray, List.set_cons_zero, List.set_cons_succ]) | ((with_reducible show wpList _ _ _ ({ dst := some 87, op := _, type := _, pos := _, after := _, guard := _ } :: _) _ _); obtain ⟨q2, c2, VA, b2, hrun, hS2, hbb⟩ := KA.out V9 V8.heap.size qd cd hown hbs; refine wl_sliceP rfl rfl rfl (slice_spare V9) ?_; simp only [Act.put, List.setIfInBounds_toArray, List.set_cons_zero, List.set_cons_succ]) | ((with_reducible show wpList _ _ _ ({ dst := some 88, op := _, type := _, pos := _, after := _, guard := _ } :: _) _ _); refine wl_app _ _ rfl rfl rfl rfl hrun ?_; simp only [Act.put, List.setIfInBounds_toArray, List.set_cons_zero, List.set_cons_succ]; have hb := hbb V8 rfl hbc; replace BB := Lib.hid (BB.out.trans (hb.mono BB.out.size)); replace X1 := Lib.hid (X1.out.bel hp1 hb); replace X8 := Lib.hid (X8.out.bel (by simp [uC]) hb); have SM := Lib.hid hS2; clear hb hbb hbc hbs hown hS2 hrun) | ((with_reducible show wpList _ _ _ ({ dst := some 89, op := _, type := _, pos := _, after := _, guard := _ } :: _) _ _); refine wl_loadP rfl rfl rfl (load_row 32 10 (by kernel_rfl) (by kernel_rfl) _ _ ln hl1 (fun j v hv => (X1.out j v hv).1)) ?_; simp only [Act.put, List.setIfInBounds_toArray, List.set_cons_zero, List.set_cons_succ]))
        clear KC KA
        refine (KM.out _ BB.out).mono ?_
        rintro _ VB ⟨rfl, hb⟩
        replace SM := Lib.hid (SM.out.bel hb)
        replace BB := Lib.hid (BB.out.trans (hb.mono BB.out.size))
        replace X1 := Lib.hid (X1.out.bel hp1 hb)
        replace X8 := Lib.hid (X8.out.bel (by simp [uC]) hb)
        clear hb KM
        cases me with
        | true =>
          go_wp2_with fail
          go_ret
          exact ⟨rfl, BB.out⟩
        | false =>
          go_wp2_with fail
          refine (KD.out _ _ c2 _ SM.out).mono ?_
          rintro _ VC ⟨rfl, hb⟩
          replace SM := Lib.hid (SM.out.bel hb)
          replace BB := Lib.hid (BB.out.trans (hb.mono BB.out.size))
          replace X1 := Lib.hid (X1.out.bel hp1 hb)
          replace X8 := Lib.hid (X8.out.bel (by simp [uC]) hb)
          clear hb KD
          cases rm with
          | false =>
            go_wp2_with fail
            go_ret
            exact ⟨rfl, BB.out⟩
          | true =>
            have hgm := HM.out (by first | rfl | trivial) (by first | rfl | trivial)
            subst hgm
            clear HM
            go_wp2_with ((with_reducible show wpList _ _ _ ({ dst := some 99, op := _, type := _, pos := _, after := _, guard := _ } :: _) _ _); refine wl_loadP rfl rfl rfl (load_row 32 10 (by kernel_rfl) (by kernel_rfl) _ _ ln hl1 (fun j v hv => (X1.out j v hv).1)) ?_; simp only [Act.put, List.setIfInBounds_toArray, List.set_cons_zero, List.set_cons_succ])
            refine (KOM.out _ _ c2 _ BB.out SM.out).mono ?_
            rintro _ VD ⟨he, hb⟩
            replace he : _ = Ending.returned (.tuple #[.agg (uC u).toArray, .int .i64 0, .int .i64 0]) := he
            subst he
            replace BB := Lib.hid (BB.out.trans (hb.mono BB.out.size))
            replace X1 := Lib.hid (X1.out.bel hp1 hb)
            replace X8 := Lib.hid (X8.out.bel (by simp [uC]) hb)
            clear hb KOM SM
            obtain ⟨b15, hb15⟩ : ∃ b, b = VD.heap.size := ⟨_, rfl⟩
            go_wp2_with (first | ((with_reducible show wpList _ _ _ ({ dst := some 15, op := _, type := _, pos := _, after := _, guard := _ } :: _) _ _); refine wl_ubox (L := (uC u)) rfl rfl rfl rfl rfl (by simp [uC, Value.oneCell']) rfl rfl ?_; intro VE hb hs hx; replace BB := Lib.hid (BB.out.trans (hb.mono BB.out.size)); replace X1 := Lib.hid (X1.out.bel hp1 hb); replace X8 := Lib.hid (X8.out.bel (by simp [uC]) hb); have X15 := Lib.hid hx; clear hb hx hs; simp only [Act.put, List.setIfInBounds_toArray, List.set_cons_zero, List.set_cons_succ]; rw [← hb15] at X15 ⊢; clear hb15) | ((with_reducible show wpList _ _ _ ({ dst := some 106, op := _, type := _, pos := _, after := _, guard := _ } :: _) _ _); refine wl_loadG (by first | rfl | (rw [hd]; rfl) | (simp [Region.wanted, yielded, hd]; done)) rfl rfl (load_row 29 4 (by kernel_rfl) (by kernel_rfl) _ _ (uC u) rfl (fun j v hv => (X15.out j v hv).1)) ?_; simp only [Act.put, List.setIfInBounds_toArray, List.set_cons_zero, List.set_cons_succ]) | ((with_reducible show wpList _ _ _ ({ dst := some 107, op := _, type := _, pos := _, after := _, guard := _ } :: _) _ _); refine wl_loadG (by first | rfl | (rw [hd]; rfl) | (simp [Region.wanted, yielded, hd]; done)) rfl rfl (load_row 29 4 (by kernel_rfl) (by kernel_rfl) _ _ (uC u) rfl (fun j v hv => (X8.out j v hv).1)) ?_; simp only [Act.put, List.setIfInBounds_toArray, List.set_cons_zero, List.set_cons_succ]) | ((with_reducible show wpList _ _ _ ({ dst := some 108, op := _, type := _, pos := _, after := _, guard := _ } :: _) _ _); refine wl_ex (by first | rfl | (simp [Region.wanted, yielded]; done)) (ex_eqU (u := u) (v := u) rfl rfl rfl _) ?_; simp only [Act.put, List.setIfInBounds_toArray, List.set_cons_zero, List.set_cons_succ]; (first | rw [decide_eq_true (show u = u from rfl)] | simp only [decide_true] | skip)))
            go_ret
            exact ⟨rfl, BB.out⟩
end Go.Proofs.Ytjifiijgghpniaa
