/-
  How things stand within bylaws: by-laws and errors so far.
  Contract of the parser: bylaws, which reads all declarations.
  The contract of bylaws.
  The contract of Parse.
-/
import Derived.Test.YtedbpjcglnkjmaaGreatDoorZJ
import Derived.Test.YtedbpjcglnkjmaaGreatDoorZM
namespace Go.Proofs.YtedbpjcglnkjmaaGreatDoor
open Go.RowKit Lx Pa

@[reducible] def nilS : Value := .slice none 0 0
theorem gV_len (ofs : Nat → Int) (l : List (Int × Nat)) : (l.flatMap (gV ofs)).length = l.length * 2 := by
  induction l with
  | nil => rfl
  | cons x l ih => rw [List.flatMap_cons, List.length_append, ih]; simp [gV]; omega
/-- By-laws and errors in memory, within bylaws, which began in world w0. -/
structure BySt (w0 W : World) (b : Nat) (p : Option Addr) (cap qb : Nat) (ts : List Tok) (En mb k base rb cb res gx : Nat) (vd vr vg : Value) (ns : List (NV × NV)) (c : By) : Prop where
  sx : Sx w0 W b p cap qb ts En mb k
  cx : Cx W base cb gx (offs ts En) c.ds c.rs vd vr ns
  rg : W.ownsRow base 49 2 vg c.es.length (c.es.flatMap (gV (offs ts En)))
  gb : ∀ j, vg.ownBlock = some j → j = gx
  gl : gx < W.heap.size
  gd : vd.ownBlock ≠ some gx
  gr : vr.ownBlock ≠ some gx
  rbx : W.cell? ⟨rb, 0, none⟩ = some (.pointer (some ⟨b, 0, none⟩))
  rs : At2 W res nilS nilS
  dl : c.ds.length ≤ 12
  rl : c.rs.length ≤ 100
  el : c.es.length ≤ 20
  n1 : rb = w0.heap.size
  n2 : res = w0.heap.size + 1
  n3 : cb = w0.heap.size + 2
  n4 : base = w0.heap.size + 3
section
variable {w0 W V W1 : World} {b cap qb En mb k base rb cb res gx : Nat} {p : Option Addr} {ts : List Tok} {vd vr vg : Value} {ns : List (NV × NV)} {c : By}
theorem BySt.bs (h : BySt w0 W b p cap qb ts En mb k base rb cb res gx vd vr vg ns c) : base ≤ W.heap.size := by
  have := h.cx.at2.lt
  have := h.n3
  have := h.n4
  omega
theorem BySt.bb (h : BySt w0 W b p cap qb ts En mb k base rb cb res gx vd vr vg ns c) : b < base ∧ b ≠ cb ∧ mb < base ∧ mb ≠ cb ∧ (0 < ts.length → qb < base ∧ qb ≠ cb) := by
  have h1 := h.n3
  have h2 := h.n4
  have h3 := h.sx.bl
  have h4 := h.sx.ml
  exact ⟨by omega, by omega, by omega, by omega, fun z => by have := h.sx.ql z; omega⟩
/-- Everything but the reader's block lies as it lay. -/
theorem BySt.keep {k' : Nat} (h : BySt w0 W b p cap qb ts En mb k base rb cb res gx vd vr vg ns c) (hk : Kept b W V) (hr : Rd V b p cap qb ts En mb k') : BySt w0 V b p cap qb ts En mb k' base rb cb res gx vd vr vg ns c := by
  have hn := h.bb
  have h1 := h.n1
  have h2 := h.n2
  have h3 := h.n3
  have h4 := h.n4
  have hbl := h.sx.bl
  exact ⟨h.sx.call hk hr, h.cx.keep hk.size (fun j hj hj2 => hk.block j hj (by rcases hj2 with rfl | hj2 <;> omega)), own_heap h.rg (fun j hj hj2 => hk.block j hj2 (by have := (h.rg.lt j hj).1; omega)), h.gb, Nat.lt_of_lt_of_le h.gl hk.size, h.gd, h.gr,
    (World.cell?_of_block (w := W) (a := ⟨rb, 0, none⟩) (hk.block rb (World.block_lt_of_cell? _ _ h.rbx) (by omega))).trans h.rbx, h.rs.heap (hk.block res h.rs.lt (by omega)), h.dl, h.rl, h.el, h1, h2, h3, h4⟩
theorem BySt.bel (h : BySt w0 W b p cap qb ts En mb k base rb cb res gx vd vr vg ns c) (hB : RowKit.Below W.heap.size W V) : BySt w0 V b p cap qb ts En mb k base rb cb res gx vd vr vg ns c := h.keep (Kept.of hB) (h.sx.rd.bel hB)
/-- A declaration was read. -/
theorem BySt.step {k' : Nat} {vd' vr' : Value} {ns' : List (NV × NV)} {ds' : List Decl} {rs' : List Rule} (h : BySt w0 W b p cap qb ts En mb k base rb cb res gx vd vr vg ns c) (hB : RowKit.Below W.heap.size W W1) (hr : Rd V b p cap qb ts En mb k') (hc : Cx V base cb gx (offs ts En) ds' rs' vd' vr' ns')
    (hk : KeptS (fun j => j = b ∨ j = cb ∨ vd.ownBlock = some j ∨ vr.ownBlock = some j) W1 V) (ho : vd'.ownBlock = vd.ownBlock ∨ ∃ j, vd'.ownBlock = some j ∧ W1.heap.size ≤ j) (ho' : vr'.ownBlock = vr.ownBlock ∨ ∃ j, vr'.ownBlock = some j ∧ W1.heap.size ≤ j) (hd : ds'.length ≤ 12) (hl : rs'.length ≤ 100) :
    BySt w0 V b p cap qb ts En mb k' base rb cb res gx vd' vr' vg ns' ⟨ds', rs', c.es⟩ := by
  have h := h.bel hB
  have hn := h.bb
  have h1 := h.n1
  have h2 := h.n2
  have h3 := h.n3
  have h4 := h.n4
  have hbl := h.sx.bl
  have hvd : ∀ j, vd.ownBlock = some j → base ≤ j := fun j hj => (h.cx.dr.lt j hj).1
  have hvr : ∀ j, vr.ownBlock = some j → base ≤ j := fun j hj => (h.cx.rr.lt j hj).1
  have hlow : ∀ j, j < base → j ≠ b → j ≠ cb → j < W1.heap.size → V.heap[j]? = W1.heap[j]? := fun j a1 a2 a3 a4 => hk.block j a4 (by
    rintro (e | e | e | e)
    · exact a2 e
    · exact a3 e
    · have := hvd j e; omega
    · have := hvr j e; omega)
  have hgl := h.gl
  refine ⟨⟨⟨hk.os.trans h.sx.kp.os, hk.tape.trans h.sx.kp.tape, hk.output.trans h.sx.kp.output, Nat.le_trans h.sx.kp.size hk.size, fun j hj hj2 => ?_⟩, hr, h.sx.bl, h.sx.ml, h.sx.ql⟩, hc, own_heap h.rg (fun j hj hj2 => hk.block j hj2 ?_), h.gb, Nat.lt_of_lt_of_le h.gl hk.size, ?_, ?_,
    (World.cell?_of_block (w := W1) (a := ⟨rb, 0, none⟩) (hlow rb (by omega) (by omega) (by omega) (World.block_lt_of_cell? _ _ h.rbx))).trans h.rbx, h.rs.heap (hlow res (by omega) (by omega) (by omega) h.rs.lt), hd, hl, h.el, h1, h2, h3, h4⟩
  · have := h.sx.kp.size
    exact (hlow j (by omega) hj2 (by omega) (by omega)).trans (h.sx.kp.block j hj hj2)
  · have e := h.gb j hj
    have hb := (h.rg.lt j hj).1
    rintro (e | e | e | e)
    · omega
    · omega
    · exact h.gd (by rw [e]; congr 1)
    · exact h.gr (by rw [e]; congr 1)
  · rcases ho with e | ⟨j, e, hj⟩
    · rw [e]; exact h.gd
    · rw [e]; intro e2; injection e2 with e2; omega
  · rcases ho' with e | ⟨j, e, hj⟩
    · rw [e]; exact h.gr
    · rw [e]; intro e2; injection e2 with e2; omega
/-- An error was appended. -/
theorem BySt.app {vg' : Value} {E : Int} {q : Nat} (h : BySt w0 W b p cap qb ts En mb k base rb cb res gx vd vr vg ns c) (hg : W.grownBy V vg.ownBlock) (hown : V.ownsRow base 49 2 vg' (c.es.length + 1) (c.es.flatMap (gV (offs ts En)) ++ gV (offs ts En) (E, q))) (ho : vg'.ownBlock = vg.ownBlock ∨ vg'.ownBlock = some W.heap.size) (hl : c.es.length < 20) :
    ∃ gx', BySt w0 V b p cap qb ts En mb k base rb cb res gx' vd vr vg' ns (c.err E q) := by
  have hn := h.bb
  have h1 := h.n1
  have h2 := h.n2
  have h3 := h.n3
  have h4 := h.n4
  have hbl := h.sx.bl
  have hml := h.sx.ml
  have hvg : ∀ j, vg.ownBlock = some j → base ≤ j := fun j hj => (h.rg.lt j hj).1
  have hlow : ∀ j, j < base → j < W.heap.size → V.heap[j]? = W.heap[j]? := fun j a1 a2 => hg.block j a2 (fun e => by have := hvg j e.symm; omega)
  have hw := h.sx.kp.size
  have hlt := hown.lt
  have key : ∀ gx', (gx' = gx ∨ gx' = W.heap.size) → (∀ j, vg'.ownBlock = some j → j = gx') → gx' < V.heap.size → vd.ownBlock ≠ some gx' → vr.ownBlock ≠ some gx' → BySt w0 V b p cap qb ts En mb k base rb cb res gx' vd vr vg' ns (c.err E q) := fun gx' hx hb hs hd hr =>
    ⟨⟨⟨hg.os.trans h.sx.kp.os, hg.tape.trans h.sx.kp.tape, hg.output.trans h.sx.kp.output, Nat.le_trans hw hg.size, fun j hj hj2 => (hlow j (by omega) (by omega)).trans (h.sx.kp.block j hj hj2)⟩,
      h.sx.rd.of hg.size (fun j hj hj2 => hlow j (by rcases hj2 with rfl | rfl | ⟨z, rfl⟩; (· omega); (· omega); (· have := h.sx.ql z; omega)) hj), h.sx.bl, h.sx.ml, h.sx.ql⟩,
     h.cx.app hg (fun j hj => ⟨h.gb j hj, hvg j hj⟩) h.gd h.gr hx, by
      show V.ownsRow base _ 2 vg' (c.es ++ [(E, q)]).length ((c.es ++ [(E, q)]).flatMap _)
      rw [List.length_append, List.flatMap_append]; simpa using hown, hb, hs, hd, hr,
     (World.cell?_of_block (w := W) (a := ⟨rb, 0, none⟩) (hlow rb (by omega) (World.block_lt_of_cell? _ _ h.rbx))).trans h.rbx, h.rs.heap (hlow res (by omega) h.rs.lt), h.dl, h.rl, by show (c.es ++ [(E, q)]).length ≤ 20; simp; omega, h1, h2, h3, h4⟩
  rcases ho with e | e
  · exact ⟨gx, key gx (.inl rfl) (fun j hj => h.gb j (by rw [← e]; exact hj)) (Nat.lt_of_lt_of_le h.gl hg.size) h.gd h.gr⟩
  · refine ⟨W.heap.size, key _ (.inr rfl) (fun j hj => by rw [e] at hj; injection hj with hj; exact hj.symm) (hown.lt _ e).2 (fun e2 => ?_) (fun e2 => ?_)⟩
    · have := (h.cx.dr.lt _ e2).2; omega
    · have := (h.cx.rr.lt _ e2).2; omega
end
/-- What by-laws leave: facts and rules, or errors. -/
def ByV (w : World) (lo : Nat) (ofs : Nat → Int) (c : By) (vd vr vg : Value) : Prop :=
  (c.es = [] → vg = nilS ∧ w.ownsRow lo 59 8 vd c.ds.length (c.ds.flatMap (dV ofs)) ∧ ∃ ns : List (NV × NV), ns.length = c.rs.length ∧ w.ownsRow lo 63 28 vr c.rs.length (rFlat ofs c.rs ns) ∧ ∀ (i : Nat) (h : i < c.rs.length) (h' : i < ns.length), NodeV w lo ofs c.rs[i].whn ns[i].1 ∧ NodeV w lo ofs c.rs[i].give ns[i].2) ∧
  (c.es ≠ [] → vd = nilS ∧ vr = nilS ∧ w.ownsRow lo 49 2 vg c.es.length (c.es.flatMap (gV ofs)))
end Go.Proofs.YtedbpjcglnkjmaaGreatDoor
namespace Go.Proofs.YtedbpjcglnkjmaaGreatDoor
open Go.RowKit Lx Pa

theorem wl_app {P : Program} {sl : Nat} {ops : Array Oper} {rest : List Oper} {o : Oper} {a : Act} {w w' : World} {Q : Exit → Act → World → Prop} {v y v' : Value} (s z : Operand) (hgd : o.guard = none)
    (ho : o.op = .call { callee := .builtin .append, args := #[s, z], argTypes := #[sl, sl] }) (hs : a.eval s = v) (hz : a.eval z = y) (hr : (Builtin.append_ #[sl, sl] o.type #[v, y]).run P w = .ok v' w') (h : wpList P ops Q rest (a.put o.dst v') w') : wpList P ops Q (o :: rest) a w :=
  wpList_plain hgd fun _ hK => wp_app s z ho hs hz hr (hK _ _ h)
theorem enter_byl (args : Array Value) (w : World) : (callFunc 44 args).run Tryz.prog w = .ok (.enter 44 args) w := by kernel_rfl
theorem decl_m {fd fr : Bool} {ts : List Tok} {e : Int} {k m : Nat} (h : declO fd fr ts = .er e k m) : m ≤ ts.length := by
  rw [declO_eq] at h
  have g := good_itemB (M := M0) ts
  cases hb : itemB M0 ts with
  | er e' k' m' =>
    rw [hb] at h g
    cases h
    obtain ⟨-, h1, h2, -⟩ := g
    omega
  | ok d r =>
    rw [hb] at h g
    obtain ⟨pre, hts, -, -⟩ := g
    have hl : ts.length = pre.length + r.length := by rw [hts, List.length_append]
    rw [bind_ok] at h
    unfold finO Pa.bad at h
    split at h
    · split at h
      · cases h; omega
      · cases h
    · cases h; omega
theorem own_mono {w : World} {lo base E size n : Nat} {v : Value} {xs : List Value} (h : w.ownsRow base E size v n xs) (hl : lo ≤ base) : w.ownsRow lo E size v n xs := by
  refine ⟨h.1, ?_⟩
  rcases h.2 with h0 | ⟨g, cap, cur, h1, h2, h3⟩
  · exact .inl h0
  · exact .inr ⟨g, cap, cur, h1, by omega, h3⟩
section
variable {b cap qb En mb base cb gx : Nat} {p : Option Addr} {ts : List Tok} {ds : List Decl} {rs : List Rule} {vd vr : Value} {ns : List (NV × NV)}
set_option maxRecDepth 100000 in
set_option maxHeartbeats 3000000 in
theorem declC_any (fd fr : Bool) (k : Nat) (w : World) (h : Rd w b p cap qb ts En mb k) (hC : Cx w base cb gx (offs ts En) ds rs vd vr ns) (hfd : ((ds.length : Int) == 12) = fd) (hfr : ((rs.length : Int) == 100) = fr) (hbb : b < base ∧ b ≠ cb ∧ mb < base ∧ mb ≠ cb ∧ (0 < ts.length → qb < base ∧ qb ≠ cb) ∧ base ≤ w.heap.size) (hgx : gx < w.heap.size) (hdl : ds.length ≤ 1000) (hrl : rs.length ≤ 1000) (rb : Nat) (hrb : w.cell? ⟨rb, 0, none⟩ = some (.pointer (some ⟨b, 0, none⟩))) :
    Calls Tryz.prog 44 #[.pointer (some ⟨rb, 0, none⟩), .pointer (some ⟨cb, 0, none⟩)] w fun e w' => PostD w b p cap qb ts En mb base cb gx vd vr (dSet ds) (rSet rs) (declO fd fr (ts.drop k)) e w' := by
  have KX := Lib.hid (decl_any fd fr k w h hC hfd hfr hbb hgx hdl hrl)
  generalize declO fd fr (ts.drop k) = O at KX ⊢
  clear hC h hfd hfr
  go_enter Tryz.func44, Tryz.ntmps44
  go_wp2_with fail
  refine KX.out.mono ?_
  intro e v3 hp
  cases O with
  | ok d r =>
    obtain ⟨k', vd', vr', ns', rfl, hp⟩ := hp
    have HP := Lib.hid hp
    clear hp
    go_wp2_with fail
    go_end0
    exact ⟨k', vd', vr', ns', rfl, HP.out⟩
  | er E q m =>
    obtain ⟨k', rfl, hp⟩ := hp
    have HP := Lib.hid hp
    clear hp
    go_wp2_with fail
    exact bodyPost_panic rfl ⟨k', rfl, HP.out⟩
end
section
variable {w0 W V W1 : World} {b cap qb En mb k base rb cb res gx : Nat} {p : Option Addr} {ts : List Tok} {vd vr vg : Value} {ns : List (NV × NV)} {c : By}
theorem BySt.kp2 (h : BySt w0 W b p cap qb ts En mb k base rb cb res gx vd vr vg ns c) (x y : Value) : Kept b w0 ((W.setCell ⟨res, 0, none⟩ x).setCell ⟨res, 1, none⟩ y) := by
  have := h.n2
  exact (h.sx.kp.other (by omega) 0 x).other (by omega) 1 y
theorem BySt.hp2 (h : BySt w0 W b p cap qb ts En mb k base rb cb res gx vd vr vg ns c) (x y : Value) (j : Nat) (hj : base ≤ j) : ((W.setCell ⟨res, 0, none⟩ x).setCell ⟨res, 1, none⟩ y).heap[j]? = W.heap[j]? := by
  have := h.n2
  have := h.n4
  exact (Below.heap_setCell _ _ _ _ (by show j ≠ res; omega)).trans (Below.heap_setCell _ _ _ _ (by show j ≠ res; omega))
theorem BySt.finY (h : BySt w0 W b p cap qb ts En mb k base rb cb res gx vd vr vg ns c) (he : c.es = []) : ByV ((W.setCell ⟨res, 0, none⟩ vd).setCell ⟨res, 1, none⟩ vr) w0.heap.size (offs ts En) c vd vr nilS := by
  have hb := h.n4
  have hp := h.hp2 vd vr
  refine ⟨fun _ => ⟨rfl, own_mono (own_heap h.cx.dr (fun j hj _ => hp j (h.cx.dr.lt j hj).1)) (by omega), ns, h.cx.nl, own_mono (own_heap h.cx.rr (fun j hj _ => hp j (h.cx.rr.lt j hj).1)) (by omega), fun i h1 h2 => ?_⟩, fun e => absurd he e⟩
  exact ⟨NodeA.keep (by simp [World.setCell]) (fun j hj _ => hp j hj.1) (fun j hj _ => (by show _ ≤ j; have := hj.1; omega)) _ _ (h.cx.nd i h1 h2).1, NodeA.keep (by simp [World.setCell]) (fun j hj _ => hp j hj.1) (fun j hj _ => (by show _ ≤ j; have := hj.1; omega)) _ _ (h.cx.nd i h1 h2).2⟩
theorem BySt.finN (h : BySt w0 W b p cap qb ts En mb k base rb cb res gx vd vr vg ns c) (he : c.es ≠ []) : ByV ((W.setCell ⟨res, 0, none⟩ nilS).setCell ⟨res, 1, none⟩ nilS) w0.heap.size (offs ts En) c nilS nilS vg := by
  have hb := h.n4
  exact ⟨fun e => absurd e he, fun _ => ⟨rfl, rfl, own_mono (own_heap h.rg (fun j hj _ => h.hp2 nilS nilS j (h.rg.lt j hj).1)) (by omega)⟩⟩
theorem BySt.start {w : World} (h : Rd w b p cap qb ts En mb 0) {n : Nat} (hn : n = w.heap.size) : BySt w (((w.alloc (.cells #[.pointer (some ⟨b, 0, none⟩)] 66)).alloc (.cells #[nilS, nilS] 26)).alloc (.cells #[nilS, nilS] 26)) b p cap qb ts En mb 0 (n + 3) n (n + 2) (n + 1) (n + 2) nilS nilS nilS [] ⟨[], [], []⟩ := by
  subst hn
  have s1 : ∀ (v : World) (o : Obj), (v.alloc o).heap.size = v.heap.size + 1 := fun v o => by simp
  refine ⟨(((Sx.start h).alloc _).alloc _).alloc _, ⟨?_, ⟨rfl, .inl ⟨rfl, rfl⟩⟩, ⟨rfl, .inl ⟨rfl, rfl⟩⟩, rfl, fun i h => absurd h (by simp), fun j hj => (by cases hj), by omega⟩, ⟨rfl, .inl ⟨rfl, rfl⟩⟩, fun j hj => (by cases hj), by rw [s1, s1, s1]; omega, by simp [Value.ownBlock], by simp [Value.ownBlock], ?_, ?_, by simp, by simp, by simp, rfl, rfl, rfl, rfl⟩
  · have := At2.new ((w.alloc (.cells #[.pointer (some ⟨b, 0, none⟩)] 66)).alloc (.cells #[nilS, nilS] 26)) nilS nilS 26
    rw [s1, s1] at this
    exact this
  · rw [cell_past _ _ _ (by show w.heap.size < _; rw [s1, s1]; omega), cell_past _ _ _ (by show w.heap.size < _; rw [s1]; omega)]; simp
  · have := At2.new (w.alloc (.cells #[.pointer (some ⟨b, 0, none⟩)] 66)) nilS nilS 26
    rw [s1] at this
    exact this.heap (Below.heap_alloc _ _ _ (by rw [s1, s1]; omega))
end
end Go.Proofs.YtedbpjcglnkjmaaGreatDoor
namespace Go.Proofs.YtedbpjcglnkjmaaGreatDoor
open Go.RowKit Lx Pa

section
variable {b cap qb En mb : Nat} {p : Option Addr} {ts : List Tok}
set_option maxRecDepth 100000 in
set_option maxHeartbeats 12000000 in
theorem bylaws_any (w : World) (h : Rd w b p cap qb ts En mb 0) : Calls Tryz.prog 26 #[.pointer (some ⟨b, 0, none⟩)] w fun e w' => ∃ vd vr vg, e = .returned (.tuple #[.agg #[vd, vr], vg]) ∧ ByV w' w.heap.size (offs ts En) (parse M0 ts) vd vr vg ∧ Kept b w w' := by
  have hmf : ∀ (fn : Fn) (first cap : Array Value) (w : World), (Instr.makeFunc fn first cap).run Tryz.prog w = .ok (.func fn first cap) w := fun _ _ _ _ => rfl
  have hmx := h.tk.max
  have KA := Lib.hid (fun k w h => atEnd_any (b := b) (cap := cap) (qb := qb) (En := En) (mb := mb) (k := k) (p := p) (ts := ts) w h)
  have KL := Lib.hid (fun k w h => leaveOut_any (b := b) (cap := cap) (qb := qb) (En := En) (mb := mb) (p := p) (ts := ts) k w h)
  obtain ⟨n, hn⟩ : ∃ n, n = w.heap.size := ⟨_, rfl⟩
  have B0 := Lib.hid (BySt.start h hn)
  obtain ⟨F, hF⟩ : ∃ F, F = parse M0 ts := ⟨_, rfl⟩
  have HF : Hid (gof M0 (ts.drop 0) ⟨[], [], []⟩ = F) := by show _ = _; rw [hF]; rfl
  rw [← hF]
  obtain ⟨W0, hW0⟩ : ∃ W0, W0 = (((w.alloc (.cells #[.pointer (some ⟨b, 0, none⟩)] 66)).alloc (.cells #[nilS, nilS] 26)).alloc (.cells #[nilS, nilS] 26)) := ⟨_, rfl⟩
  rw [← hW0] at B0
  obtain ⟨cx0, cx1, cf0, cf1⟩ := B0.out.cx.at2
  obtain ⟨rx0, rx1, rf0, rf1⟩ := B0.out.rs
  have hwb := B0.out.rbx
  clear h hF
  go_enter Tryz.func26, Tryz.ntmps26
  go_wp2_with fail
  rw [← hW0]
  clear hW0 cx0 cx1 cf0 cf1 rx0 rx1 rf0 rf1 hwb
  rw [← hn]
  clear hn
  have B0 : Hid (BySt w W0 b p cap qb ts En mb 0 (n + 3) n (n + 1 + 1) (n + 1) (n + 1 + 1) nilS nilS nilS [] ⟨[], [], []⟩) := B0
  generalize n + 1 + 1 = cb at *
  generalize n + 1 = res at *
  generalize n + 3 = base at *
  go_loopg [5] ts.length (fun g s5 wr => ∃ (k gx : Nat) (vd vr : Value) (ns : List (NV × NV)) (c : By), ts.length - k ≤ g ∧ Hid (BySt w wr b p cap qb ts En mb k base n cb res gx vd vr s5 ns c) ∧ Hid (gof M0 (ts.drop k) c = F))
  case atStart => exact ⟨0, cb, nilS, nilS, [], ⟨[], [], []⟩, by omega, B0, HF⟩
  case round =>
    clear B0 HF
    obtain ⟨k, gx, vd, vr, ns, c, hg, S, HF⟩ := hrel
    obtain ⟨gq, gc, rfl⟩ := own_slice S.out.rg
    have hel := S.out.el
    have hkl := S.out.sx.rd.kl
    by_cases he : k = ts.length
    · have K1 := Lib.hid (KA.out k wr S.out.sx.rd)
      rw [decide_eq_true he] at K1
      have HE : Hid (c = F) := by show _ = _; rw [← HF.out, List.drop_eq_nil_of_le (by omega), gof_nil]
      have hwb := S.out.rbx
      go_wp2_with fail
      refine K1.out.mono ?_
      rintro _ v ⟨rfl, hb⟩
      have S1 := Lib.hid (S.out.bel hb)
      clear hb K1 S HF hwb
      have HE2 := HE.out
      by_cases hz : c.es.length = 0
      · have hes : c.es = [] := List.length_eq_zero_iff.1 hz
        have e5 : decide (0 < c.es.length) = false := decide_eq_false (by omega)
        have HES := Lib.hid hes
        clear HE2 hz hes
        obtain ⟨dq, dc, rfl⟩ := own_slice S1.out.cx.dr
        obtain ⟨rq, rc, rfl⟩ := own_slice S1.out.cx.rr
        obtain ⟨cx0, cx1, cf0, cf1⟩ := S1.out.cx.at2
        obtain ⟨rx0, rx1, rf0, rf1⟩ := S1.out.rs
        go_wp2_with fail
        refine (?_ : ∀ G : World, At2 G res (.slice dq c.ds.length dc) (.slice rq c.rs.length rc) → Kept b w G → ByV G w.heap.size (offs ts En) F (.slice dq c.ds.length dc) (.slice rq c.rs.length rc) (nilS) → bodyPost _ _ _ _ _ G) _ (S1.out.rs.put (.slice dq c.ds.length dc) (.slice rq c.rs.length rc)) (S1.out.kp2 (.slice dq c.ds.length dc) (.slice rq c.rs.length rc)) (by rw [← HE.out]; exact S1.out.finY HES.out)
        intro G hG hK hV
        obtain ⟨y0, y1, -, -⟩ := hG
        exact bodyPost_ret (v := .tuple #[.agg #[.slice dq c.ds.length dc, .slice rq c.rs.length rc], nilS]) (by simp [results, Tryz.results26, go_sem, y0, y1]) rfl ⟨_, _, _, rfl, hV, hK⟩
      · have hes : c.es ≠ [] := fun e => hz (by rw [e]; rfl)
        have e5 : decide (0 < c.es.length) = true := decide_eq_true (by omega)
        have HES := Lib.hid hes
        clear HE2 hz hes
        obtain ⟨rx0, rx1, rf0, rf1⟩ := S1.out.rs
        go_wp2_with fail
        refine (?_ : ∀ G : World, At2 G res (nilS) (nilS) → Kept b w G → ByV G w.heap.size (offs ts En) F (nilS) (nilS) (.slice gq c.es.length gc) → bodyPost _ _ _ _ _ G) _ (S1.out.rs.put (nilS) (nilS)) (S1.out.kp2 (nilS) (nilS)) (by rw [← HE.out]; exact S1.out.finN HES.out)
        intro G hG hK hV
        obtain ⟨y0, y1, -, -⟩ := hG
        exact bodyPost_ret (v := .tuple #[.agg #[nilS, nilS], .slice gq c.es.length gc]) (by simp [results, Tryz.results26, go_sem, y0, y1]) rfl ⟨_, _, _, rfl, hV, hK⟩
    · have K1 := Lib.hid (KA.out k wr S.out.sx.rd)
      rw [decide_eq_false he] at K1
      have hwb := S.out.rbx
      by_cases hfu : 20 ≤ c.es.length
      · have e1 : decide ((c.es.length : Int) < 20) = false := decide_eq_false (by omega)
        have HE : Hid (c = F) := by show _ = _; rw [← HF.out, gof_full (by omega)]
        go_wp2_with fail
        refine K1.out.mono ?_
        rintro _ v ⟨rfl, hb⟩
        have S1 := Lib.hid (S.out.bel hb)
        clear hb K1 S HF hwb
        have HE2 := HE.out
        by_cases hz : c.es.length = 0
        · have hes : c.es = [] := List.length_eq_zero_iff.1 hz
          have e5 : decide (0 < c.es.length) = false := decide_eq_false (by omega)
          have HES := Lib.hid hes
          clear HE2 hz hes
          obtain ⟨dq, dc, rfl⟩ := own_slice S1.out.cx.dr
          obtain ⟨rq, rc, rfl⟩ := own_slice S1.out.cx.rr
          obtain ⟨cx0, cx1, cf0, cf1⟩ := S1.out.cx.at2
          obtain ⟨rx0, rx1, rf0, rf1⟩ := S1.out.rs
          go_wp2_with fail
          refine (?_ : ∀ G : World, At2 G res (.slice dq c.ds.length dc) (.slice rq c.rs.length rc) → Kept b w G → ByV G w.heap.size (offs ts En) F (.slice dq c.ds.length dc) (.slice rq c.rs.length rc) (nilS) → bodyPost _ _ _ _ _ G) _ (S1.out.rs.put (.slice dq c.ds.length dc) (.slice rq c.rs.length rc)) (S1.out.kp2 (.slice dq c.ds.length dc) (.slice rq c.rs.length rc)) (by rw [← HE.out]; exact S1.out.finY HES.out)
          intro G hG hK hV
          obtain ⟨y0, y1, -, -⟩ := hG
          exact bodyPost_ret (v := .tuple #[.agg #[.slice dq c.ds.length dc, .slice rq c.rs.length rc], nilS]) (by simp [results, Tryz.results26, go_sem, y0, y1]) rfl ⟨_, _, _, rfl, hV, hK⟩
        · have hes : c.es ≠ [] := fun e => hz (by rw [e]; rfl)
          have e5 : decide (0 < c.es.length) = true := decide_eq_true (by omega)
          have HES := Lib.hid hes
          clear HE2 hz hes
          obtain ⟨rx0, rx1, rf0, rf1⟩ := S1.out.rs
          go_wp2_with fail
          refine (?_ : ∀ G : World, At2 G res (nilS) (nilS) → Kept b w G → ByV G w.heap.size (offs ts En) F (nilS) (nilS) (.slice gq c.es.length gc) → bodyPost _ _ _ _ _ G) _ (S1.out.rs.put (nilS) (nilS)) (S1.out.kp2 (nilS) (nilS)) (by rw [← HE.out]; exact S1.out.finN HES.out)
          intro G hG hK hV
          obtain ⟨y0, y1, -, -⟩ := hG
          exact bodyPost_ret (v := .tuple #[.agg #[nilS, nilS], .slice gq c.es.length gc]) (by simp [results, Tryz.results26, go_sem, y0, y1]) rfl ⟨_, _, _, rfl, hV, hK⟩
      · have e1 : decide ((c.es.length : Int) < 20) = true := decide_eq_true (by omega)
        go_wp2_with fail
        refine K1.out.mono ?_
        rintro _ v ⟨rfl, hb⟩
        have S1 := Lib.hid (S.out.bel hb)
        clear hb K1 S hwb
        have hnil : ts.drop k ≠ [] := fun e => by have := congrArg List.length e; rw [List.length_drop] at this; simp at this; omega
        have HSt := Lib.hid (decl_step c (c.ds.length == 12) (c.rs.length == 100) (ts.drop k) rfl rfl hnil (by omega) S1.out.dl S1.out.rl)
        have bd := (Below.refl v.heap.size v).alloc (Nat.le_refl _) (.cells #[.int .i64 0, .int .i64 0] 49)
        have W1s : (v.alloc (.cells #[.int .i64 0, .int .i64 0] 49)).heap.size = v.heap.size + 1 := by simp
        have SD := Lib.hid (S1.out.bel bd)
        have D0 := Lib.hid (At2.new v (.int .i64 0) (.int .i64 0) 49)
        have hbb := SD.out.bb
        have KD := Lib.hid (declC_any (c.ds.length == 12) (c.rs.length == 100) k _ SD.out.sx.rd SD.out.cx (by rw [Bool.eq_iff_iff]; simp; omega) (by rw [Bool.eq_iff_iff]; simp; omega) ⟨hbb.1, hbb.2.1, hbb.2.2.1, hbb.2.2.2.1, hbb.2.2.2.2, SD.out.bs⟩ SD.out.gl (by have := SD.out.dl; omega) (by have := SD.out.rl; omega) n SD.out.rbx)
        have hvs : b < v.heap.size ∧ cb < v.heap.size ∧ (∀ j, vd.ownBlock = some j → j < v.heap.size) ∧ (∀ j, vr.ownBlock = some j → j < v.heap.size) := ⟨S1.out.sx.rd.lt, S1.out.cx.at2.lt, fun j hj => (S1.out.cx.dr.lt j hj).2, fun j hj => (S1.out.cx.rr.lt j hj).2⟩
        have HVS := Lib.hid hvs
        have HBD := Lib.hid bd
        clear bd hvs hnil
        rcases HSt.out with ⟨d, r, hdecl, hgof, hl1, hl2, hlen⟩ | ⟨e, q, m, hdecl, hgof, he3, hlen⟩
        · rw [hdecl] at KD
          have HF2 : Hid (gof M0 r ⟨dSet c.ds d, rSet c.rs d, c.es⟩ = F) := by show _ = _; rw [← hgof]; exact HF.out
          have KE := Lib.hid (errorOf_okB 44 #[.pointer (some ⟨n, 0, none⟩), .pointer (some ⟨cb, 0, none⟩)] enter_byl (fun w' => ∃ (k' : Nat) (vd' vr' : Value) (ns' : List (NV × NV)), BySt w w' b p cap qb ts En mb k' base n cb res gx vd' vr' (.slice gq c.es.length gc) ns' ⟨dSet c.ds d, rSet c.rs d, c.es⟩ ∧ r = ts.drop k') v (KD.out.mono (by
            rintro e w' ⟨k', vd', vr', ns', rfl, hrd, hr, hcx, hks, ho, ho'⟩
            refine ⟨rfl, D0.out.heap (hks.block v.heap.size (by omega) ?_), k', vd', vr', ns', S1.out.step HBD.out hrd hcx hks ho ho' hl1 hl2, hr⟩
            have := HVS.out
            rintro (e | e | e | e)
            · omega
            · omega
            · have := this.2.2.1 _ e; omega
            · have := this.2.2.2 _ e; omega)))
          have hlen2 : (ts.drop k).length = ts.length - k := List.length_drop
          rw [hlen2] at hlen
          have HLN := Lib.hid hlen
          clear hdecl hgof KD SD D0 HBD HSt hl1 hl2 HF W1s hbb hlen hlen2
          go_wp2_with fail
          refine KE.out.mono ?_
          rintro _ v2 ⟨rfl, v1, ⟨k', vd', vr', ns', hS, hr⟩, hB⟩
          have S2 := Lib.hid ((hS.bel hB).bel ((Below.refl v2.heap.size v2).alloc (Nat.le_refl _) (.cells #[.int .i64 0, .int .i64 0] 49)))
          have hkl := hS.sx.rd.kl
          have hln : ts.length - k' < ts.length - k := by have := HLN.out; rw [hr, List.length_drop] at this; exact this
          have HR := Lib.hid hr
          clear hS hB KE hr S1 HVS
          go_wp2_with fail
          go_roundg (ts.length - k')
          case measure => omega
          case rel => exact ⟨k', gx, vd', vr', ns', _, Nat.le_refl _, S2, by show _ = _; rw [← HR.out]; exact HF2.out⟩
        · have hE : (e == 0) = false := by rcases he3 with rfl | rfl | rfl <;> rfl
          have hm := decl_m hdecl
          rw [hdecl] at KD
          have hlen2 : (ts.drop k).length = ts.length - k := List.length_drop
          rw [hlen2] at hgof hm
          have HGF : Hid (gof M0 (skip ((ts.drop k).drop (ts.length - k - m))) (c.err e q) = F) := by show _ = _; rw [← hgof]; exact HF.out
          rw [hlen2] at hlen
          have HLN := Lib.hid hlen
          have KE := Lib.hid (errorOf_er 44 #[.pointer (some ⟨n, 0, none⟩), .pointer (some ⟨cb, 0, none⟩)] enter_byl e (offs ts En q) (fun w' => ∃ k', Kept b v w' ∧ Rd w' b p cap qb ts En mb k' ∧ m = ts.length - k' ∧ v.heap.size + 1 ≤ w'.heap.size) v (KD.out.mono (by
            rintro e w' ⟨k', rfl, hk, hrd, hm⟩
            exact ⟨rfl, D0.out.heap (hk.block v.heap.size (by omega) (by have := HVS.out.1; omega)), k', (Kept.of HBD.out).trans hk, hrd, hm, by have := hk.size; omega⟩)))
          clear hdecl hgof KD SD D0 HBD HSt HF hbb hlen hlen2 he3
          go_wp2_with fail
          refine KE.out.mono ?_
          rintro _ v2 ⟨rfl, v1, ⟨k', hk, hrd, hmk, hsz⟩, hk2⟩
          have hk3 : Kept b v v2 := Kept.own hk (hk2.below (B := v.heap.size) (Nat.le_refl _) hk.size) (Nat.le_refl _)
          have hrd2 : Rd v2 b p cap qb ts En mb k' := hrd.of hk2.size (fun j hj hj2 => hk2.block j hj (by
            have h1 := S1.out.sx.rd
            rcases hj2 with rfl | rfl | ⟨z, rfl⟩
            · have := h1.lt; omega
            · have := h1.ml; omega
            · have := h1.tk.lt z; omega))
          have bx := (Below.refl v2.heap.size v2).alloc (Nat.le_refl _) (.cells #[.int .i64 (offs ts En q), .int .i64 e] 49)
          have S2 := Lib.hid ((S1.out.keep hk3 hrd2).bel bx)
          have DX := Lib.hid (At2.new v2 (.int .i64 (offs ts En q)) (.int .i64 e) 49)
          have hkl := hrd.kl
          have HMK := Lib.hid hmk
          clear hk hrd hk2 hk3 hrd2 KE S1 HVS W1s bx hmk
          have U1s : (v2.alloc (.cells #[.int .i64 (offs ts En q), .int .i64 e] 49)).heap.size = v2.heap.size + 1 := by simp
          have bu := (Below.refl (v2.alloc (.cells #[.int .i64 (offs ts En q), .int .i64 e] 49)).heap.size (v2.alloc (.cells #[.int .i64 (offs ts En q), .int .i64 e] 49))).alloc (Nat.le_refl _) (.cells #[.int .i64 (offs ts En q), .int .i64 e] 49)
          have SU := Lib.hid (S2.out.bel bu)
          have AU := At2.new (v2.alloc (.cells #[.int .i64 (offs ts En q), .int .i64 e] 49)) (.int .i64 (offs ts En q)) (.int .i64 e) 49
          rw [U1s] at AU
          obtain ⟨vg', W2, hr, hown, hgr, hob⟩ := run_app1 27 49 2 Tryz.underlying27 info_G (by decide) _ base 27 (Value.slice gq c.es.length gc) c.es.length _ SU.out.rg (v2.heap.size + 1) (gV (offs ts En) (e, q)) rfl
            (fun j u hu => by
              match j, hu with
              | 0, hu => simp [gV] at hu; subst hu; exact AU.c0
              | 1, hu => simp [gV] at hu; subst hu; exact AU.c1
              | j + 2, hu => simp [gV] at hu) (by simp [gV, Value.oneCell']) (by omega) SU.out.bs
          obtain ⟨gx', hS3⟩ := SU.out.app hgr hown hob (by omega)
          obtain ⟨gq', gc', rfl⟩ := own_slice hown
          have S3 := Lib.hid hS3
          have HRA := Lib.hid hr
          clear bu AU hown hgr hob hS3 hr SU S2
          obtain ⟨d0, d1, -, -⟩ := DX.out
          have hwb := S3.out.rbx
          go_wp2_with ((with_reducible show wpList _ _ _ ({ dst := some 23, op := _, type := _, pos := _, after := _, guard := _ } :: _) _ _); refine wl_app (v := .slice gq c.es.length gc) (y := .slice (some ⟨v2.heap.size + 1, 0, none⟩) 1 1) (.tmp 20) (.tmp 22) rfl rfl rfl rfl HRA.out ?_)
          refine (KL.out k' W2 S3.out.sx.rd).mono ?_
          rintro _ v3 ⟨rfl, k2, hkp, hrd, hsk⟩
          have S4 := Lib.hid (S3.out.keep hkp hrd)
          have hk' : k + (ts.length - k - m) = k' := by have := HMK.out; omega
          have hk2l := hrd.kl
          have hln : ts.length - k2 < ts.length - k := by
            have h1 := HLN.out
            rw [List.drop_drop, hk', ← hsk, List.length_drop] at h1
            exact h1
          have HF3 : Hid (gof M0 (ts.drop k2) (c.err e q) = F) := by
            show _ = _
            rw [hsk, ← hk', ← List.drop_drop]; exact HGF.out
          clear hkp hrd hsk hwb HRA S3 d0 d1
          go_wp2_with fail
          go_roundg (ts.length - k2)
          case measure => omega
          case rel => exact ⟨k2, gx', vd, vr, ns, _, Nat.le_refl _, S4, HF3⟩
end
end Go.Proofs.YtedbpjcglnkjmaaGreatDoor
namespace Go.Proofs.YtedbpjcglnkjmaaGreatDoor
open Go.RowKit Lx Pa

/-- The by-laws of a source, or its errors. -/
def byR (l : List UInt8) : By := match lex Vh l with
  | .ok ts => parse M0 ts
  | .er E _ => ⟨[], [], [(E, 0)]⟩
/-- The byte offsets of places. -/
def ofsR (l : List UInt8) : Nat → Int := match lex Vh l with
  | .ok ts => offs ts l.length
  | .er _ a => fun _ => a
theorem enter_par (args : Array Value) (w : World) : (callFunc 24 args).run Tryz.prog w = .ok (.enter 24 args) w := by kernel_rfl
set_option maxRecDepth 100000 in
set_option maxHeartbeats 3000000 in
theorem par1_ok (s : ByteArray) (hs : s.size ≤ 281474976710656) (ts : List Tok) (h : lex Vh s.data.toList = .ok ts) (sb pb : Nat) (w : World) (h1 : w.cell? ⟨sb, 0, none⟩ = some (.string s)) (h2 : w.cell? ⟨pb, 0, none⟩ = some (.pointer none)) (h3 : w.frozen? ⟨pb, 0, none⟩ = false) :
    Calls Tryz.prog 24 #[.pointer (some ⟨sb, 0, none⟩), .pointer (some ⟨pb, 0, none⟩)] w fun e w' => e = .returned (.tuple #[]) ∧ ∃ b p cap qb mb, w'.cell? ⟨pb, 0, none⟩ = some (.pointer (some ⟨b, 0, none⟩)) ∧ Rd w' b p cap qb ts s.size mb 0 ∧ w.heap.size ≤ b ∧ Kept pb w w' := by
  have KN := Lib.hid (fun w => reader_ok s hs ts h w)
  have hpb : pb < w.heap.size := World.block_lt_of_cell? _ _ h2
  have H2 := Lib.hid h2
  have H3 := Lib.hid h3
  clear h h2 h3
  go_enter Tryz.func24, Tryz.ntmps24
  go_wp2_with fail
  refine (KN.out _).mono ?_
  rintro _ v ⟨b, p, cap, qb, mb, rfl, hrd, hbw, hb⟩
  have c0 := (hb.cell (p := ⟨pb, 0, none⟩) hpb).trans H2.out
  have f0 := (World.frozen?_of_block (a := ⟨pb, 0, none⟩) (hb.block pb hpb)).trans H3.out
  have HB := Lib.hid hb
  have HRD := Lib.hid hrd
  have HBW := Lib.hid hbw
  clear hb hrd hbw KN h1
  go_wp2_with fail
  go_end0
  have hrd := HRD.out
  have hbw := HBW.out
  refine ⟨rfl, b, p, cap, qb, mb, World.cell?_setCell_same _ _ _ c0, hrd.other pb 0 none _ ⟨by omega, ?_, ?_⟩, hbw, (Kept.of HB.out).setCell 0 none _⟩
  · intro e
    have := hrd.mp
    rw [← e] at this
    simp [World.cell?, this, opObj] at c0
  · intro z e
    have h5 := hrd.tk.cells 0 z
    rw [← e] at h5
    have h6 := h5.1
    simp only [Nat.zero_mul, Nat.add_zero] at h6
    rw [c0] at h6
    cases h6
set_option maxRecDepth 100000 in
set_option maxHeartbeats 3000000 in
theorem par1_er (s : ByteArray) (hs : s.size ≤ 281474976710656) (E : Int) (a : Nat) (h : lex Vh s.data.toList = .er E a) (sb pb : Nat) (w : World) (h1 : w.cell? ⟨sb, 0, none⟩ = some (.string s)) :
    Calls Tryz.prog 24 #[.pointer (some ⟨sb, 0, none⟩), .pointer (some ⟨pb, 0, none⟩)] w fun e w' => e = .panicked (failP E a) ∧ RowKit.Below w.heap.size w w' := by
  have KN := Lib.hid (fun w => reader_er s hs E a h w)
  clear h
  go_enter Tryz.func24, Tryz.ntmps24
  go_wp2_with fail
  refine (KN.out _).mono ?_
  rintro _ v ⟨rfl, hb⟩
  have HB := Lib.hid hb
  go_wp2_with fail
  exact bodyPost_panic rfl ⟨rfl, HB.out⟩
theorem diag_row {G : World} {k n : Nat} (a E : Int) (ofs : Nat → Int) (h : G.heap[k]? = some (.cells #[.int .i64 a, .int .i64 E] 49)) (hn : n ≤ k) (ho : ofs 0 = a := by rfl) : ByV G n ofs ⟨[], [], [(E, 0)]⟩ nilS nilS (.slice (some ⟨k, 0, none⟩) 1 1) := by
  subst ho
  exact ⟨(fun e => by cases e), fun _ => ⟨rfl, rfl, rfl, .inr ⟨k, 1, _, rfl, hn, h, Nat.le_refl _, by decide, rfl, rfl⟩⟩⟩
section
variable {w w' : World} {lo lo' : Nat} {ofs : Nat → Int} {c : By} {vd vr vg : Value}
theorem own_any {E size n : Nat} {v : Value} {xs : List Value} (h : w.ownsRow lo E size v n xs) : ∃ q n c, v = .slice q n c := by
  obtain ⟨q, c, e⟩ := own_slice h
  exact ⟨q, n, c, e⟩
theorem byv_d (h : ByV w lo ofs c vd vr vg) : ∃ q n c, vd = .slice q n c := by
  by_cases he : c.es = []
  · exact own_any (h.1 he).2.1
  · exact ⟨none, 0, 0, (h.2 he).1⟩
theorem byv_r (h : ByV w lo ofs c vd vr vg) : ∃ q n c, vr = .slice q n c := by
  by_cases he : c.es = []
  · obtain ⟨ns, _, h, _⟩ := (h.1 he).2.2
    exact own_any h
  · exact ⟨none, 0, 0, (h.2 he).2.1⟩
theorem byv_g (h : ByV w lo ofs c vd vr vg) : ∃ q n c, vg = .slice q n c := by
  by_cases he : c.es = []
  · exact ⟨none, 0, 0, (h.1 he).1⟩
  · exact own_any (h.2 he).2.2
theorem ByV.keep (h : ByV w lo ofs c vd vr vg) (hl : lo' ≤ lo) (hs : w.heap.size ≤ w'.heap.size) (hb : ∀ j, lo ≤ j → j < w.heap.size → w'.heap[j]? = w.heap[j]?) : ByV w' lo' ofs c vd vr vg := by
  have ho : ∀ {E size n : Nat} {v : Value} {xs : List Value}, w.ownsRow lo E size v n xs → w'.ownsRow lo' E size v n xs := fun h => own_mono (own_heap h (fun j hj hj2 => hb j (h.lt j hj).1 hj2)) hl
  refine ⟨fun he => ?_, fun he => ⟨(h.2 he).1, (h.2 he).2.1, ho (h.2 he).2.2⟩⟩
  obtain ⟨h1, h2, ns, h3, h4, h5⟩ := h.1 he
  exact ⟨h1, ho h2, ns, h3, ho h4, fun i a b => ⟨NodeA.keep hs hb (fun j (hj : lo ≤ j) _ => (by show lo' ≤ j; omega)) _ _ (h5 i a b).1, NodeA.keep hs hb (fun j (hj : lo ≤ j) _ => (by show lo' ≤ j; omega)) _ _ (h5 i a b).2⟩⟩
theorem ByV.bel (h : ByV w lo ofs c vd vr vg) (hB : RowKit.Below w.heap.size w w') : ByV w' lo ofs c vd vr vg := h.keep (Nat.le_refl _) hB.size (fun j _ hj => hB.block j hj)
end
/-- What Parse gives. -/
def ParP (w0 : World) (l : List UInt8) (e : Ending) (w' : World) : Prop := ∃ vd vr vg, e = .returned (.tuple #[.agg #[vd, vr], vg]) ∧ ByV w' w0.heap.size (ofsR l) (byR l) vd vr vg ∧ RowKit.Below w0.heap.size w0 w'
set_option maxRecDepth 100000 in
set_option maxHeartbeats 6000000 in
theorem parse_any (s : ByteArray) (hs : s.size ≤ 281474976710656) (w : World) : Calls Tryz.prog 11 #[.string s] w fun e w' => ParP w s.data.toList e w' := by
  have hmf : ∀ (fn : Fn) (first cap : Array Value) (w : World), (Instr.makeFunc fn first cap).run Tryz.prog w = .ok (.func fn first cap) w := fun _ _ _ _ => rfl
  obtain ⟨l, hl⟩ : ∃ l, l = s.data.toList := ⟨_, rfl⟩
  have hsz : s.size = l.length := by rw [hl, len_bytes]
  obtain ⟨n, hn⟩ : ∃ n, n = w.heap.size := ⟨_, rfl⟩
  obtain ⟨W, hW⟩ : ∃ W, W = (((w.alloc (.cells #[.string s] 9)).alloc (.cells #[nilS, nilS] 26)).alloc (.cells #[.pointer none] 66)) := ⟨_, rfl⟩
  have h1 : ∀ (v : World) (o : Obj), RowKit.Below v.heap.size v (v.alloc o) := fun v o => (Below.refl _ _).alloc (Nat.le_refl _) o
  have s1 : ∀ (v : World) (o : Obj), (v.alloc o).heap.size = v.heap.size + 1 := fun v o => by simp
  have HBW : Hid (RowKit.Below n w W) := by
    show RowKit.Below _ _ _
    rw [hW, hn]
    exact ((h1 w _).trans ((h1 _ _).mono (by rw [s1]; omega))).trans ((h1 _ _).mono (by rw [s1, s1]; omega))
  have C0 : Hid (W.cell? ⟨n, 0, none⟩ = some (.string s)) := by
    show _ = _
    rw [hW, hn, cell_past _ _ _ (by show w.heap.size < _; rw [s1, s1]; omega), cell_past _ _ _ (by show w.heap.size < _; rw [s1]; omega)]; simp
  have R0 : Hid (At2 W (n + 1) nilS nilS) := by
    have := (At2.new (w.alloc (.cells #[.string s] 9)) nilS nilS 26).bel (h1 _ (.cells #[.pointer none] 66))
    rw [s1, ← hn] at this
    show At2 _ _ _ _
    rw [hW]; exact this
  have hsW : W.heap.size = n + 3 := by rw [hW, s1, s1, s1, hn]
  have P0 : Hid (W.cell? ⟨n + 1 + 1, 0, none⟩ = some (.pointer none) ∧ W.frozen? ⟨n + 1 + 1, 0, none⟩ = false) := by
    show _ ∧ _
    have e : n + 1 + 1 = ((w.alloc (.cells #[.string s] 9)).alloc (.cells #[nilS, nilS] 26)).heap.size := by rw [s1, s1, hn]
    have nb : ∀ v : World, (v.alloc (.cells #[.pointer none] 66)).cell? ⟨v.heap.size, 0, none⟩ = some (.pointer none) ∧ (v.alloc (.cells #[.pointer none] 66)).frozen? ⟨v.heap.size, 0, none⟩ = false := fun v => ⟨by simp, by simp⟩
    rw [hW, e]
    exact nb _
  have bd := h1 W (.cells #[.int .i64 0, .int .i64 0] 49)
  have D0 := Lib.hid (At2.new W (.int .i64 0) (.int .i64 0) 49)
  have C1 := (bd.cell (p := ⟨n, 0, none⟩) (by show n < _; omega)).trans C0.out
  have P1 := (bd.cell (p := ⟨n + 1 + 1, 0, none⟩) (by show n + 1 + 1 < _; omega)).trans P0.out.1
  have P2 := (World.frozen?_of_block (a := ⟨n + 1 + 1, 0, none⟩) (bd.block (n + 1 + 1) (by omega))).trans P0.out.2
  have sD := s1 W (.cells #[.int .i64 0, .int .i64 0] 49)
  rw [← hl]
  have HN := Lib.hid hn
  clear hn
  cases hx : lex Vh l with
  | er E a =>
    have hby : byR l = ⟨[], [], [(E, 0)]⟩ := by unfold byR; rw [hx]
    have hof : ofsR l = fun _ => (a : Int) := by unfold ofsR; rw [hx]
    have hE : (E == 0) = false := by simpa using (lex_er hx).1
    have KE := Lib.hid (errorOf_er 24 #[.pointer (some ⟨n, 0, none⟩), .pointer (some ⟨n + 1 + 1, 0, none⟩)] enter_par E a (fun w' => RowKit.Below (n + 3) W w') W
      ((par1_er s hs E a (by rw [← hl]; exact hx) _ _ _ C1).mono (by
        rintro e w' ⟨he, hb⟩
        exact ⟨he, D0.out.bel hb, bd.mono (by omega) |>.trans (hb.mono (by omega))⟩)))
    have HBY := Lib.hid hby
    have HOF := Lib.hid hof
    clear h1 s1 bd C1 P1 P2 hl hx hsz hby hof P0 D0 sD C0
    go_enter Tryz.func11, Tryz.ntmps11
    go_wp2_with fail
    rw [← hW, ← HN.out]
    clear hW
    refine KE.out.mono ?_
    rintro _ v ⟨rfl, v2, hb, hk⟩
    have HBv := Lib.hid (hb.trans (hk.below (B := n + 3) (by omega) (by have := hb.size; omega)))
    have R1 := Lib.hid (R0.out.heap (HBv.out.block (n + 1) (by omega)))
    have DX := Lib.hid (At2.new v (.int .i64 (a : Int)) (.int .i64 E) 49)
    have bx := (Below.refl v.heap.size v).alloc (Nat.le_refl _) (.cells #[.int .i64 (a : Int), .int .i64 E] 49)
    have hsv := HBv.out.size
    have R2 := Lib.hid (R1.out.bel bx)
    have HB2 := Lib.hid ((HBW.out.trans (HBv.out.mono (by omega))).trans (bx.mono (by omega)))
    clear hb hk bx R1 R0 HBv HBW KE
    go_wp2_with fail
    have HVs : (v.alloc (.cells #[.int .i64 (a : Int), .int .i64 E] 49)).heap.size = v.heap.size + 1 := by simp
    generalize v.alloc (.cells #[.int .i64 (a : Int), .int .i64 E] 49) = V at *
    generalize v.heap.size = db at *
    have hS : V.drew.cell? ⟨db, 0, none⟩ = some (.int .i64 (a : Int)) ∧ V.drew.cell? ⟨db, 1, none⟩ = some (.int .i64 E) := ⟨DX.out.c0, DX.out.c1⟩
    refine wp_region_held (S := fun w' : World => w'.cell? ⟨db, 0, none⟩ = some (.int .i64 (a : Int)) ∧ w'.cell? ⟨db, 1, none⟩ = some (.int .i64 E)) mixed ?_
    change wpAnyH _ _ _ _ _ _ _ _ V.drew
    refine tk0 (v := ?_) (by kernel_rfl) (by kernel_rfl) (by kernel_rfl) (fun _ _ _ h => h) (Or.inl ⟨by rfl, ?_⟩) hS ?_
    rotate_left
    · (intro w hSw; (try dsimp only at hSw); go_simp; try with_reducible rfl)
    simp only [Act.put, List.setIfInBounds_toArray, List.set_cons_zero, List.set_cons_succ]
    refine tk1 (v := ?_) (by kernel_rfl) (by kernel_rfl) (by kernel_rfl) (fun _ _ _ h => h) (Or.inl ⟨by rfl, ?_⟩) hS ?_
    rotate_left
    · (intro w hSw; (try dsimp only at hSw); go_simp; try with_reducible rfl)
    simp only [Act.put, List.setIfInBounds_toArray, List.set_cons_zero, List.set_cons_succ]
    have hdr := (Below.refl V.heap.size V).drew
    have R3 := Lib.hid (R2.out.bel hdr)
    have HB3 := Lib.hid (HB2.out.drew)
    have D3 := Lib.hid (DX.out.bel hdr)
    have ba := (Below.refl V.drew.heap.size V.drew).alloc (Nat.le_refl _) (.cells #[.int .i64 (a : Int), .int .i64 E] 49)
    have hVd : V.drew.heap.size = V.heap.size := rfl
    have ND : db ≠ n + 1 := by omega
    obtain ⟨r0, r1, g0, g1⟩ := R2.out
    refine wpAnyH_ready (rs := [2, 3]) (by kernel_rfl) (by simp) (st2 (fun K hK => ?_) (st3 (fun K hK => ?_) AllReadyH.nil))
    · go_simp
      have DA := D3.out.bel ba
      refine hK.out _ _ ?_ (fun hHeld => ?_)
      · exact ⟨DA.c0, DA.c1⟩
      clear hK K
      try simp only [Act.put, List.setIfInBounds_toArray, List.set_cons_zero, List.set_cons_succ]
      obtain ⟨q0, q1, p0, p1⟩ := R2.out.bel ((Below.refl V.heap.size V).alloc (Nat.le_refl _) (.cells #[.int .i64 (a : Int), .int .i64 E] 49))
      refine wpAnyH_ready (rs := [3]) (by kernel_rfl) (by simp) (st3 (fun K hK => ?_) AllReadyH.nil)
      go_simp
      have DB := (DA.other ND 0 nilS).other ND 1 nilS
      refine hK.out _ _ ?_ (fun hHeld => ?_)
      · exact ⟨DB.c0, DB.c1⟩
      clear hK K
      try simp only [Act.put, List.setIfInBounds_toArray, List.set_cons_zero, List.set_cons_succ]
      refine wpAnyH_ready (rs := [4]) (by kernel_rfl) (by simp) (st4 (fun K hK => ?_) AllReadyH.nil)
      go_simp
      refine hK.out _ _ ?_ (fun hHeld => ?_)
      · exact ⟨DB.c0, DB.c1⟩
      clear hK K
      try simp only [Act.put, List.setIfInBounds_toArray, List.set_cons_zero, List.set_cons_succ]
      refine wpAnyH_done (by kernel_rfl) ?_ _
      go_wp2_with fail
      refine (?_ : ∀ G : World, At2 G (n + 1) nilS nilS → ByV G n (ofsR l) (byR l) nilS nilS (.slice (some ⟨V.heap.size, 0, none⟩) 1 1) → RowKit.Below n w G → bodyPost _ _ _ _ _ G) _ ?_ ?_ ?_
      · intro G hG hV hB
        obtain ⟨y0, y1, -, -⟩ := hG
        exact bodyPost_ret (v := .tuple #[.agg #[nilS, nilS], .slice (some ⟨V.heap.size, 0, none⟩) 1 1]) (by simp [results, Tryz.results11, go_sem, y0, y1]) rfl ⟨_, _, _, rfl, by rw [← HN.out]; exact hV, by rw [← HN.out]; exact hB⟩
      · exact (R3.out.bel ba).put nilS nilS
      · rw [HBY.out, HOF.out]
        exact diag_row _ _ _ ((Below.heap_setCell _ _ _ _ (by show V.heap.size ≠ n + 1; omega)).trans ((Below.heap_setCell _ _ _ _ (by show V.heap.size ≠ n + 1; omega)).trans (heap_alloc_last V.drew _))) (by omega)
      · exact ((HB3.out.trans (ba.mono (by omega))).setCell (p := ⟨n + 1, 0, none⟩) (by show n ≤ n + 1; omega) _).setCell (p := ⟨n + 1, 1, none⟩) (by show n ≤ n + 1; omega) _
    · go_simp
      have DA := (D3.out.other ND 0 nilS).other ND 1 nilS
      refine hK.out _ _ ?_ (fun hHeld => ?_)
      · exact ⟨DA.c0, DA.c1⟩
      clear hK K
      try simp only [Act.put, List.setIfInBounds_toArray, List.set_cons_zero, List.set_cons_succ]
      refine wpAnyH_ready (rs := [2]) (by kernel_rfl) (by simp) (st2 (fun K hK => ?_) AllReadyH.nil)
      go_simp
      have DB := DA.bel ((Below.refl _ _).alloc (Nat.le_refl _) (.cells #[.int .i64 (a : Int), .int .i64 E] 49))
      refine hK.out _ _ ?_ (fun hHeld => ?_)
      · exact ⟨DB.c0, DB.c1⟩
      clear hK K
      try simp only [Act.put, List.setIfInBounds_toArray, List.set_cons_zero, List.set_cons_succ]
      refine wpAnyH_ready (rs := [4]) (by kernel_rfl) (by simp) (st4 (fun K hK => ?_) AllReadyH.nil)
      go_simp
      refine hK.out _ _ ?_ (fun hHeld => ?_)
      · exact ⟨DB.c0, DB.c1⟩
      clear hK K
      try simp only [Act.put, List.setIfInBounds_toArray, List.set_cons_zero, List.set_cons_succ]
      refine wpAnyH_done (by kernel_rfl) ?_ _
      go_wp2_with fail
      refine (?_ : ∀ G : World, At2 G (n + 1) nilS nilS → ByV G n (ofsR l) (byR l) nilS nilS (.slice (some ⟨V.heap.size, 0, none⟩) 1 1) → RowKit.Below n w G → bodyPost _ _ _ _ _ G) _ ?_ ?_ ?_
      · intro G hG hV hB
        obtain ⟨y0, y1, -, -⟩ := hG
        exact bodyPost_ret (v := .tuple #[.agg #[nilS, nilS], .slice (some ⟨V.heap.size, 0, none⟩) 1 1]) (by simp [results, Tryz.results11, go_sem, y0, y1]) rfl ⟨_, _, _, rfl, by rw [← HN.out]; exact hV, by rw [← HN.out]; exact hB⟩
      · exact (R3.out.put nilS nilS).bel (by
          have := (Below.refl ((V.drew.setCell ⟨n + 1, 0, none⟩ nilS).setCell ⟨n + 1, 1, none⟩ nilS).heap.size ((V.drew.setCell ⟨n + 1, 0, none⟩ nilS).setCell ⟨n + 1, 1, none⟩ nilS)).alloc (Nat.le_refl _) (.cells #[.int .i64 (a : Int), .int .i64 E] 49)
          exact this)
      · rw [HBY.out, HOF.out]
        refine diag_row _ _ _ ?_ (by omega)
        have := heap_alloc_last ((V.drew.setCell ⟨n + 1, 0, none⟩ nilS).setCell ⟨n + 1, 1, none⟩ nilS) (.cells #[.int .i64 (a : Int), .int .i64 E] 49)
        simp only [World.size_setCell] at this
        exact this
      · exact ((HB3.out.setCell (p := ⟨n + 1, 0, none⟩) (by show n ≤ n + 1; omega) _).setCell (p := ⟨n + 1, 1, none⟩) (by show n ≤ n + 1; omega) _).alloc (by simp; show n ≤ V.heap.size; omega) _
  | ok ts =>
    have hby : byR l = parse M0 ts := by unfold byR; rw [hx]
    have hof : ofsR l = offs ts s.size := by unfold ofsR; rw [hx, hsz]
    have KE := Lib.hid (errorOf_okB 24 #[.pointer (some ⟨n, 0, none⟩), .pointer (some ⟨n + 1 + 1, 0, none⟩)] enter_par (fun w' => ∃ b p cap qb mb, w'.cell? ⟨n + 1 + 1, 0, none⟩ = some (.pointer (some ⟨b, 0, none⟩)) ∧ Rd w' b p cap qb ts s.size mb 0 ∧ n + 3 ≤ b ∧ Kept (n + 1 + 1) W w') W
      ((par1_ok s hs ts (by rw [← hl]; exact hx) _ _ _ C1 P1 P2).mono (by
        rintro e w' ⟨he, b, p, cap, qb, mb, hc, hrd, hbw, hk⟩
        exact ⟨he, D0.out.heap (hk.block W.heap.size (by omega) (by omega)), b, p, cap, qb, mb, hc, hrd, by omega, (Kept.of bd).trans hk⟩)))
    have HBY := Lib.hid hby
    have HOF := Lib.hid hof
    clear h1 s1 bd C1 P1 P2 hl hx hsz hby hof P0 D0 sD C0
    go_enter Tryz.func11, Tryz.ntmps11
    go_wp2_with fail
    rw [← hW, ← HN.out]
    clear hW
    refine KE.out.mono ?_
    rintro _ v ⟨rfl, v2, ⟨b, p, cap, qb, mb, hc, hrd, hbw, hk⟩, hB⟩
    have bx := (Below.refl v.heap.size v).alloc (Nat.le_refl _) (.cells #[.int .i64 0, .int .i64 0] 49)
    have hRD := Lib.hid ((hrd.bel hB).bel bx)
    have hpl := World.block_lt_of_cell? _ _ hc
    simp only at hpl
    have c0 := (bx.cell (p := ⟨n + 1 + 1, 0, none⟩) (by show n + 1 + 1 < _; have := hB.size; omega)).trans ((hB.cell (p := ⟨n + 1 + 1, 0, none⟩) hpl).trans hc)
    have hsv := hk.size
    have hsv2 := hB.size
    have R1 := Lib.hid (((R0.out.heap (hk.block (n + 1) (by omega) (by omega))).bel hB).bel bx)
    have HB2 := Lib.hid ((HBW.out.trans (hk.below (B := n) (by omega) (by omega))).trans ((hB.mono (by omega)).trans (bx.mono (by omega))))
    clear hrd hc hk hB bx R0 HBW KE
    go_wp2_with fail
    have hVs : (v.alloc (.cells #[.int .i64 0, .int .i64 0] 49)).heap.size = v.heap.size + 1 := by simp
    generalize v.alloc (.cells #[.int .i64 0, .int .i64 0] 49) = V at *
    refine (bylaws_any V hRD.out).mono ?_
    rintro _ u ⟨vd, vr, vg, rfl, hV, hK⟩
    have HV := Lib.hid hV
    have R2 := Lib.hid (R1.out.heap (hK.block (n + 1) R1.out.lt (by omega)))
    have HB3 := Lib.hid (HB2.out.trans (hK.below (B := n) (by omega) (by have := R1.out.lt; omega)))
    clear hV hK R1 HB2 hRD c0
    obtain ⟨r0, r1, g0, g1⟩ := R2.out
    obtain ⟨dq, dn, dc, rfl⟩ : ∃ q n c, vd = .slice q n c := byv_d HV.out
    obtain ⟨rq, rn, rc, rfl⟩ : ∃ q n c, vr = .slice q n c := byv_r HV.out
    obtain ⟨gq, gn, gc, rfl⟩ : ∃ q n c, vg = .slice q n c := byv_g HV.out
    go_wp2_with fail
    refine (?_ : ∀ G : World, At2 G (n + 1) (.slice dq dn dc) (.slice rq rn rc) → ByV G n (ofsR l) (byR l) (.slice dq dn dc) (.slice rq rn rc) (.slice gq gn gc) → RowKit.Below n w G → bodyPost _ _ _ _ _ G) _ (R2.out.put _ _) ?_ ?_
    · intro G hG hV hB
      obtain ⟨y0, y1, -, -⟩ := hG
      exact bodyPost_ret (v := .tuple #[.agg #[.slice dq dn dc, .slice rq rn rc], .slice gq gn gc]) (by simp [results, Tryz.results11, go_sem, y0, y1]) rfl ⟨_, _, _, rfl, by rw [← HN.out]; exact hV, by rw [← HN.out]; exact hB⟩
    · rw [HBY.out, HOF.out]
      exact HV.out.keep (lo' := n) (by omega) (by simp [World.setCell]) (fun j hj _ => (Below.heap_setCell _ _ _ _ (by show j ≠ n + 1; omega)).trans (Below.heap_setCell _ _ _ _ (by show j ≠ n + 1; omega)))
    · exact (HB3.out.setCell (p := ⟨n + 1, 0, none⟩) (by show n ≤ n + 1; omega) _).setCell (p := ⟨n + 1, 1, none⟩) (by show n ≤ n + 1; omega) _
end Go.Proofs.YtedbpjcglnkjmaaGreatDoor
