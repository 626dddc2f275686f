/- Texts on units: UHel2 RPrd USiz -/
import Derived.Test.YtoaonficdkgfiaaY05
import Derived.Deep.RegionHeld3
import Derived.Test.YtoaonficdkgfiaaY22
import Derived.Test.YtoaonficdkgfiaaY03
namespace Go.Proofs.Ytoaonficdkgfiaa
open Go.RowKit

section
variable {P : Program} {md : Region.Mode} {Q : Exit → Act → World → Prop} {S : World → Prop}
theorem tk24 {o0 o1 o2 o3 o4 o5 o6 o7 o8 o9 o10 o11 o12 o13 o14 o15 o16 o17 o18 o19 o20 o21 o22 o23 o24 : Oper} {r : List Oper} {v : Value} {fuel : Nat} {listed : Array Bool} {a : Act} {w : World} (hs : Region.noSelect (List.toArray (o0 :: o1 :: o2 :: o3 :: o4 :: o5 :: o6 :: o7 :: o8 :: o9 :: o10 :: o11 :: o12 :: o13 :: o14 :: o15 :: o16 :: o17 :: o18 :: o19 :: o20 :: o21 :: o22 :: o23 :: o24 :: r)) = true) (hf : Region.free md (List.toArray (o0 :: o1 :: o2 :: o3 :: o4 :: o5 :: o6 :: o7 :: o8 :: o9 :: o10 :: o11 :: o12 :: o13 :: o14 :: o15 :: o16 :: o17 :: o18 :: o19 :: o20 :: o21 :: o22 :: o23 :: o24 :: r)) listed 24 = true)
  (hr : (Region.ready md (List.toArray (o0 :: o1 :: o2 :: o3 :: o4 :: o5 :: o6 :: o7 :: o8 :: o9 :: o10 :: o11 :: o12 :: o13 :: o14 :: o15 :: o16 :: o17 :: o18 :: o19 :: o20 :: o21 :: o22 :: o23 :: o24 :: r)) listed).contains 24 = true) (hQ : ∀ c a w, Q (.panic c) (a.put o24.dst v) w → Q (.panic c) a w) (hy : YieldsIf P (List.toArray (o0 :: o1 :: o2 :: o3 :: o4 :: o5 :: o6 :: o7 :: o8 :: o9 :: o10 :: o11 :: o12 :: o13 :: o14 :: o15 :: o16 :: o17 :: o18 :: o19 :: o20 :: o21 :: o22 :: o23 :: o24 :: r)) S o24 v a) (hS : S w)
  (h : wpAnyH P md (List.toArray (o0 :: o1 :: o2 :: o3 :: o4 :: o5 :: o6 :: o7 :: o8 :: o9 :: o10 :: o11 :: o12 :: o13 :: o14 :: o15 :: o16 :: o17 :: o18 :: o19 :: o20 :: o21 :: o22 :: o23 :: o24 :: r)) Q S fuel (listed.setIfInBounds 24 true) (a.put o24.dst v) w) : wpAnyH P md (List.toArray (o0 :: o1 :: o2 :: o3 :: o4 :: o5 :: o6 :: o7 :: o8 :: o9 :: o10 :: o11 :: o12 :: o13 :: o14 :: o15 :: o16 :: o17 :: o18 :: o19 :: o20 :: o21 :: o22 :: o23 :: o24 :: r)) Q S (fuel + 1) listed a w := wpAnyH_take (i := 24) rfl hs hf hr hQ hy hS h
theorem st24 {o0 o1 o2 o3 o4 o5 o6 o7 o8 o9 o10 o11 o12 o13 o14 o15 o16 o17 o18 o19 o20 o21 o22 o23 o24 : Oper} {r : List Oper} {fuel : Nat} {listed : Array Bool} {a : Act} {w : World} {rs : List Nat}
  (h : ∀ K' : Act → World → Prop, Shut (∀ a w, S w → (S w → wpAnyH P md (List.toArray (o0 :: o1 :: o2 :: o3 :: o4 :: o5 :: o6 :: o7 :: o8 :: o9 :: o10 :: o11 :: o12 :: o13 :: o14 :: o15 :: o16 :: o17 :: o18 :: o19 :: o20 :: o21 :: o22 :: o23 :: o24 :: r)) Q S fuel (listed.setIfInBounds 24 true) a w) → K' a w) → if Region.wanted o24 (yielded (List.toArray (o0 :: o1 :: o2 :: o3 :: o4 :: o5 :: o6 :: o7 :: o8 :: o9 :: o10 :: o11 :: o12 :: o13 :: o14 :: o15 :: o16 :: o17 :: o18 :: o19 :: o20 :: o21 :: o22 :: o23 :: o24 :: r)) a.tmps) = true then Oper.wp P o24 a w K' Q else K' (a.put o24.dst undef) w)
  (hs : AllReadyH P md (List.toArray (o0 :: o1 :: o2 :: o3 :: o4 :: o5 :: o6 :: o7 :: o8 :: o9 :: o10 :: o11 :: o12 :: o13 :: o14 :: o15 :: o16 :: o17 :: o18 :: o19 :: o20 :: o21 :: o22 :: o23 :: o24 :: r)) Q S fuel listed a w rs) : AllReadyH P md (List.toArray (o0 :: o1 :: o2 :: o3 :: o4 :: o5 :: o6 :: o7 :: o8 :: o9 :: o10 :: o11 :: o12 :: o13 :: o14 :: o15 :: o16 :: o17 :: o18 :: o19 :: o20 :: o21 :: o22 :: o23 :: o24 :: r)) Q S fuel listed a w (24 :: rs) := AllReadyH.cons (i := 24) rfl h hs
theorem tk25 {o0 o1 o2 o3 o4 o5 o6 o7 o8 o9 o10 o11 o12 o13 o14 o15 o16 o17 o18 o19 o20 o21 o22 o23 o24 o25 : Oper} {r : List Oper} {v : Value} {fuel : Nat} {listed : Array Bool} {a : Act} {w : World} (hs : Region.noSelect (List.toArray (o0 :: o1 :: o2 :: o3 :: o4 :: o5 :: o6 :: o7 :: o8 :: o9 :: o10 :: o11 :: o12 :: o13 :: o14 :: o15 :: o16 :: o17 :: o18 :: o19 :: o20 :: o21 :: o22 :: o23 :: o24 :: o25 :: r)) = true) (hf : Region.free md (List.toArray (o0 :: o1 :: o2 :: o3 :: o4 :: o5 :: o6 :: o7 :: o8 :: o9 :: o10 :: o11 :: o12 :: o13 :: o14 :: o15 :: o16 :: o17 :: o18 :: o19 :: o20 :: o21 :: o22 :: o23 :: o24 :: o25 :: r)) listed 25 = true)
  (hr : (Region.ready md (List.toArray (o0 :: o1 :: o2 :: o3 :: o4 :: o5 :: o6 :: o7 :: o8 :: o9 :: o10 :: o11 :: o12 :: o13 :: o14 :: o15 :: o16 :: o17 :: o18 :: o19 :: o20 :: o21 :: o22 :: o23 :: o24 :: o25 :: r)) listed).contains 25 = true) (hQ : ∀ c a w, Q (.panic c) (a.put o25.dst v) w → Q (.panic c) a w) (hy : YieldsIf P (List.toArray (o0 :: o1 :: o2 :: o3 :: o4 :: o5 :: o6 :: o7 :: o8 :: o9 :: o10 :: o11 :: o12 :: o13 :: o14 :: o15 :: o16 :: o17 :: o18 :: o19 :: o20 :: o21 :: o22 :: o23 :: o24 :: o25 :: r)) S o25 v a) (hS : S w)
  (h : wpAnyH P md (List.toArray (o0 :: o1 :: o2 :: o3 :: o4 :: o5 :: o6 :: o7 :: o8 :: o9 :: o10 :: o11 :: o12 :: o13 :: o14 :: o15 :: o16 :: o17 :: o18 :: o19 :: o20 :: o21 :: o22 :: o23 :: o24 :: o25 :: r)) Q S fuel (listed.setIfInBounds 25 true) (a.put o25.dst v) w) : wpAnyH P md (List.toArray (o0 :: o1 :: o2 :: o3 :: o4 :: o5 :: o6 :: o7 :: o8 :: o9 :: o10 :: o11 :: o12 :: o13 :: o14 :: o15 :: o16 :: o17 :: o18 :: o19 :: o20 :: o21 :: o22 :: o23 :: o24 :: o25 :: r)) Q S (fuel + 1) listed a w := wpAnyH_take (i := 25) rfl hs hf hr hQ hy hS h
theorem tk26 {o0 o1 o2 o3 o4 o5 o6 o7 o8 o9 o10 o11 o12 o13 o14 o15 o16 o17 o18 o19 o20 o21 o22 o23 o24 o25 o26 : Oper} {r : List Oper} {v : Value} {fuel : Nat} {listed : Array Bool} {a : Act} {w : World} (hs : Region.noSelect (List.toArray (o0 :: o1 :: o2 :: o3 :: o4 :: o5 :: o6 :: o7 :: o8 :: o9 :: o10 :: o11 :: o12 :: o13 :: o14 :: o15 :: o16 :: o17 :: o18 :: o19 :: o20 :: o21 :: o22 :: o23 :: o24 :: o25 :: o26 :: r)) = true) (hf : Region.free md (List.toArray (o0 :: o1 :: o2 :: o3 :: o4 :: o5 :: o6 :: o7 :: o8 :: o9 :: o10 :: o11 :: o12 :: o13 :: o14 :: o15 :: o16 :: o17 :: o18 :: o19 :: o20 :: o21 :: o22 :: o23 :: o24 :: o25 :: o26 :: r)) listed 26 = true)
  (hr : (Region.ready md (List.toArray (o0 :: o1 :: o2 :: o3 :: o4 :: o5 :: o6 :: o7 :: o8 :: o9 :: o10 :: o11 :: o12 :: o13 :: o14 :: o15 :: o16 :: o17 :: o18 :: o19 :: o20 :: o21 :: o22 :: o23 :: o24 :: o25 :: o26 :: r)) listed).contains 26 = true) (hQ : ∀ c a w, Q (.panic c) (a.put o26.dst v) w → Q (.panic c) a w) (hy : YieldsIf P (List.toArray (o0 :: o1 :: o2 :: o3 :: o4 :: o5 :: o6 :: o7 :: o8 :: o9 :: o10 :: o11 :: o12 :: o13 :: o14 :: o15 :: o16 :: o17 :: o18 :: o19 :: o20 :: o21 :: o22 :: o23 :: o24 :: o25 :: o26 :: r)) S o26 v a) (hS : S w)
  (h : wpAnyH P md (List.toArray (o0 :: o1 :: o2 :: o3 :: o4 :: o5 :: o6 :: o7 :: o8 :: o9 :: o10 :: o11 :: o12 :: o13 :: o14 :: o15 :: o16 :: o17 :: o18 :: o19 :: o20 :: o21 :: o22 :: o23 :: o24 :: o25 :: o26 :: r)) Q S fuel (listed.setIfInBounds 26 true) (a.put o26.dst v) w) : wpAnyH P md (List.toArray (o0 :: o1 :: o2 :: o3 :: o4 :: o5 :: o6 :: o7 :: o8 :: o9 :: o10 :: o11 :: o12 :: o13 :: o14 :: o15 :: o16 :: o17 :: o18 :: o19 :: o20 :: o21 :: o22 :: o23 :: o24 :: o25 :: o26 :: r)) Q S (fuel + 1) listed a w := wpAnyH_take (i := 26) rfl hs hf hr hQ hy hS h
theorem tk27 {o0 o1 o2 o3 o4 o5 o6 o7 o8 o9 o10 o11 o12 o13 o14 o15 o16 o17 o18 o19 o20 o21 o22 o23 o24 o25 o26 o27 : Oper} {r : List Oper} {v : Value} {fuel : Nat} {listed : Array Bool} {a : Act} {w : World} (hs : Region.noSelect (List.toArray (o0 :: o1 :: o2 :: o3 :: o4 :: o5 :: o6 :: o7 :: o8 :: o9 :: o10 :: o11 :: o12 :: o13 :: o14 :: o15 :: o16 :: o17 :: o18 :: o19 :: o20 :: o21 :: o22 :: o23 :: o24 :: o25 :: o26 :: o27 :: r)) = true) (hf : Region.free md (List.toArray (o0 :: o1 :: o2 :: o3 :: o4 :: o5 :: o6 :: o7 :: o8 :: o9 :: o10 :: o11 :: o12 :: o13 :: o14 :: o15 :: o16 :: o17 :: o18 :: o19 :: o20 :: o21 :: o22 :: o23 :: o24 :: o25 :: o26 :: o27 :: r)) listed 27 = true)
  (hr : (Region.ready md (List.toArray (o0 :: o1 :: o2 :: o3 :: o4 :: o5 :: o6 :: o7 :: o8 :: o9 :: o10 :: o11 :: o12 :: o13 :: o14 :: o15 :: o16 :: o17 :: o18 :: o19 :: o20 :: o21 :: o22 :: o23 :: o24 :: o25 :: o26 :: o27 :: r)) listed).contains 27 = true) (hQ : ∀ c a w, Q (.panic c) (a.put o27.dst v) w → Q (.panic c) a w) (hy : YieldsIf P (List.toArray (o0 :: o1 :: o2 :: o3 :: o4 :: o5 :: o6 :: o7 :: o8 :: o9 :: o10 :: o11 :: o12 :: o13 :: o14 :: o15 :: o16 :: o17 :: o18 :: o19 :: o20 :: o21 :: o22 :: o23 :: o24 :: o25 :: o26 :: o27 :: r)) S o27 v a) (hS : S w)
  (h : wpAnyH P md (List.toArray (o0 :: o1 :: o2 :: o3 :: o4 :: o5 :: o6 :: o7 :: o8 :: o9 :: o10 :: o11 :: o12 :: o13 :: o14 :: o15 :: o16 :: o17 :: o18 :: o19 :: o20 :: o21 :: o22 :: o23 :: o24 :: o25 :: o26 :: o27 :: r)) Q S fuel (listed.setIfInBounds 27 true) (a.put o27.dst v) w) : wpAnyH P md (List.toArray (o0 :: o1 :: o2 :: o3 :: o4 :: o5 :: o6 :: o7 :: o8 :: o9 :: o10 :: o11 :: o12 :: o13 :: o14 :: o15 :: o16 :: o17 :: o18 :: o19 :: o20 :: o21 :: o22 :: o23 :: o24 :: o25 :: o26 :: o27 :: r)) Q S (fuel + 1) listed a w := wpAnyH_take (i := 27) rfl hs hf hr hQ hy hS h
theorem tk28 {o0 o1 o2 o3 o4 o5 o6 o7 o8 o9 o10 o11 o12 o13 o14 o15 o16 o17 o18 o19 o20 o21 o22 o23 o24 o25 o26 o27 o28 : Oper} {r : List Oper} {v : Value} {fuel : Nat} {listed : Array Bool} {a : Act} {w : World} (hs : Region.noSelect (List.toArray (o0 :: o1 :: o2 :: o3 :: o4 :: o5 :: o6 :: o7 :: o8 :: o9 :: o10 :: o11 :: o12 :: o13 :: o14 :: o15 :: o16 :: o17 :: o18 :: o19 :: o20 :: o21 :: o22 :: o23 :: o24 :: o25 :: o26 :: o27 :: o28 :: r)) = true) (hf : Region.free md (List.toArray (o0 :: o1 :: o2 :: o3 :: o4 :: o5 :: o6 :: o7 :: o8 :: o9 :: o10 :: o11 :: o12 :: o13 :: o14 :: o15 :: o16 :: o17 :: o18 :: o19 :: o20 :: o21 :: o22 :: o23 :: o24 :: o25 :: o26 :: o27 :: o28 :: r)) listed 28 = true)
  (hr : (Region.ready md (List.toArray (o0 :: o1 :: o2 :: o3 :: o4 :: o5 :: o6 :: o7 :: o8 :: o9 :: o10 :: o11 :: o12 :: o13 :: o14 :: o15 :: o16 :: o17 :: o18 :: o19 :: o20 :: o21 :: o22 :: o23 :: o24 :: o25 :: o26 :: o27 :: o28 :: r)) listed).contains 28 = true) (hQ : ∀ c a w, Q (.panic c) (a.put o28.dst v) w → Q (.panic c) a w) (hy : YieldsIf P (List.toArray (o0 :: o1 :: o2 :: o3 :: o4 :: o5 :: o6 :: o7 :: o8 :: o9 :: o10 :: o11 :: o12 :: o13 :: o14 :: o15 :: o16 :: o17 :: o18 :: o19 :: o20 :: o21 :: o22 :: o23 :: o24 :: o25 :: o26 :: o27 :: o28 :: r)) S o28 v a) (hS : S w)
  (h : wpAnyH P md (List.toArray (o0 :: o1 :: o2 :: o3 :: o4 :: o5 :: o6 :: o7 :: o8 :: o9 :: o10 :: o11 :: o12 :: o13 :: o14 :: o15 :: o16 :: o17 :: o18 :: o19 :: o20 :: o21 :: o22 :: o23 :: o24 :: o25 :: o26 :: o27 :: o28 :: r)) Q S fuel (listed.setIfInBounds 28 true) (a.put o28.dst v) w) : wpAnyH P md (List.toArray (o0 :: o1 :: o2 :: o3 :: o4 :: o5 :: o6 :: o7 :: o8 :: o9 :: o10 :: o11 :: o12 :: o13 :: o14 :: o15 :: o16 :: o17 :: o18 :: o19 :: o20 :: o21 :: o22 :: o23 :: o24 :: o25 :: o26 :: o27 :: o28 :: r)) Q S (fuel + 1) listed a w := wpAnyH_take (i := 28) rfl hs hf hr hQ hy hS h
theorem tk29 {o0 o1 o2 o3 o4 o5 o6 o7 o8 o9 o10 o11 o12 o13 o14 o15 o16 o17 o18 o19 o20 o21 o22 o23 o24 o25 o26 o27 o28 o29 : Oper} {r : List Oper} {v : Value} {fuel : Nat} {listed : Array Bool} {a : Act} {w : World} (hs : Region.noSelect (List.toArray (o0 :: o1 :: o2 :: o3 :: o4 :: o5 :: o6 :: o7 :: o8 :: o9 :: o10 :: o11 :: o12 :: o13 :: o14 :: o15 :: o16 :: o17 :: o18 :: o19 :: o20 :: o21 :: o22 :: o23 :: o24 :: o25 :: o26 :: o27 :: o28 :: o29 :: r)) = true) (hf : Region.free md (List.toArray (o0 :: o1 :: o2 :: o3 :: o4 :: o5 :: o6 :: o7 :: o8 :: o9 :: o10 :: o11 :: o12 :: o13 :: o14 :: o15 :: o16 :: o17 :: o18 :: o19 :: o20 :: o21 :: o22 :: o23 :: o24 :: o25 :: o26 :: o27 :: o28 :: o29 :: r)) listed 29 = true)
  (hr : (Region.ready md (List.toArray (o0 :: o1 :: o2 :: o3 :: o4 :: o5 :: o6 :: o7 :: o8 :: o9 :: o10 :: o11 :: o12 :: o13 :: o14 :: o15 :: o16 :: o17 :: o18 :: o19 :: o20 :: o21 :: o22 :: o23 :: o24 :: o25 :: o26 :: o27 :: o28 :: o29 :: r)) listed).contains 29 = true) (hQ : ∀ c a w, Q (.panic c) (a.put o29.dst v) w → Q (.panic c) a w) (hy : YieldsIf P (List.toArray (o0 :: o1 :: o2 :: o3 :: o4 :: o5 :: o6 :: o7 :: o8 :: o9 :: o10 :: o11 :: o12 :: o13 :: o14 :: o15 :: o16 :: o17 :: o18 :: o19 :: o20 :: o21 :: o22 :: o23 :: o24 :: o25 :: o26 :: o27 :: o28 :: o29 :: r)) S o29 v a) (hS : S w)
  (h : wpAnyH P md (List.toArray (o0 :: o1 :: o2 :: o3 :: o4 :: o5 :: o6 :: o7 :: o8 :: o9 :: o10 :: o11 :: o12 :: o13 :: o14 :: o15 :: o16 :: o17 :: o18 :: o19 :: o20 :: o21 :: o22 :: o23 :: o24 :: o25 :: o26 :: o27 :: o28 :: o29 :: r)) Q S fuel (listed.setIfInBounds 29 true) (a.put o29.dst v) w) : wpAnyH P md (List.toArray (o0 :: o1 :: o2 :: o3 :: o4 :: o5 :: o6 :: o7 :: o8 :: o9 :: o10 :: o11 :: o12 :: o13 :: o14 :: o15 :: o16 :: o17 :: o18 :: o19 :: o20 :: o21 :: o22 :: o23 :: o24 :: o25 :: o26 :: o27 :: o28 :: o29 :: r)) Q S (fuel + 1) listed a w := wpAnyH_take (i := 29) rfl hs hf hr hQ hy hS h
theorem st29 {o0 o1 o2 o3 o4 o5 o6 o7 o8 o9 o10 o11 o12 o13 o14 o15 o16 o17 o18 o19 o20 o21 o22 o23 o24 o25 o26 o27 o28 o29 : Oper} {r : List Oper} {fuel : Nat} {listed : Array Bool} {a : Act} {w : World} {rs : List Nat}
  (h : ∀ K' : Act → World → Prop, Shut (∀ a w, S w → (S w → wpAnyH P md (List.toArray (o0 :: o1 :: o2 :: o3 :: o4 :: o5 :: o6 :: o7 :: o8 :: o9 :: o10 :: o11 :: o12 :: o13 :: o14 :: o15 :: o16 :: o17 :: o18 :: o19 :: o20 :: o21 :: o22 :: o23 :: o24 :: o25 :: o26 :: o27 :: o28 :: o29 :: r)) Q S fuel (listed.setIfInBounds 29 true) a w) → K' a w) → if Region.wanted o29 (yielded (List.toArray (o0 :: o1 :: o2 :: o3 :: o4 :: o5 :: o6 :: o7 :: o8 :: o9 :: o10 :: o11 :: o12 :: o13 :: o14 :: o15 :: o16 :: o17 :: o18 :: o19 :: o20 :: o21 :: o22 :: o23 :: o24 :: o25 :: o26 :: o27 :: o28 :: o29 :: r)) a.tmps) = true then Oper.wp P o29 a w K' Q else K' (a.put o29.dst undef) w)
  (hs : AllReadyH P md (List.toArray (o0 :: o1 :: o2 :: o3 :: o4 :: o5 :: o6 :: o7 :: o8 :: o9 :: o10 :: o11 :: o12 :: o13 :: o14 :: o15 :: o16 :: o17 :: o18 :: o19 :: o20 :: o21 :: o22 :: o23 :: o24 :: o25 :: o26 :: o27 :: o28 :: o29 :: r)) Q S fuel listed a w rs) : AllReadyH P md (List.toArray (o0 :: o1 :: o2 :: o3 :: o4 :: o5 :: o6 :: o7 :: o8 :: o9 :: o10 :: o11 :: o12 :: o13 :: o14 :: o15 :: o16 :: o17 :: o18 :: o19 :: o20 :: o21 :: o22 :: o23 :: o24 :: o25 :: o26 :: o27 :: o28 :: o29 :: r)) Q S fuel listed a w (29 :: rs) := AllReadyH.cons (i := 29) rfl h hs
theorem tk30 {o0 o1 o2 o3 o4 o5 o6 o7 o8 o9 o10 o11 o12 o13 o14 o15 o16 o17 o18 o19 o20 o21 o22 o23 o24 o25 o26 o27 o28 o29 o30 : Oper} {r : List Oper} {v : Value} {fuel : Nat} {listed : Array Bool} {a : Act} {w : World} (hs : Region.noSelect (List.toArray (o0 :: o1 :: o2 :: o3 :: o4 :: o5 :: o6 :: o7 :: o8 :: o9 :: o10 :: o11 :: o12 :: o13 :: o14 :: o15 :: o16 :: o17 :: o18 :: o19 :: o20 :: o21 :: o22 :: o23 :: o24 :: o25 :: o26 :: o27 :: o28 :: o29 :: o30 :: r)) = true) (hf : Region.free md (List.toArray (o0 :: o1 :: o2 :: o3 :: o4 :: o5 :: o6 :: o7 :: o8 :: o9 :: o10 :: o11 :: o12 :: o13 :: o14 :: o15 :: o16 :: o17 :: o18 :: o19 :: o20 :: o21 :: o22 :: o23 :: o24 :: o25 :: o26 :: o27 :: o28 :: o29 :: o30 :: r)) listed 30 = true)
  (hr : (Region.ready md (List.toArray (o0 :: o1 :: o2 :: o3 :: o4 :: o5 :: o6 :: o7 :: o8 :: o9 :: o10 :: o11 :: o12 :: o13 :: o14 :: o15 :: o16 :: o17 :: o18 :: o19 :: o20 :: o21 :: o22 :: o23 :: o24 :: o25 :: o26 :: o27 :: o28 :: o29 :: o30 :: r)) listed).contains 30 = true) (hQ : ∀ c a w, Q (.panic c) (a.put o30.dst v) w → Q (.panic c) a w) (hy : YieldsIf P (List.toArray (o0 :: o1 :: o2 :: o3 :: o4 :: o5 :: o6 :: o7 :: o8 :: o9 :: o10 :: o11 :: o12 :: o13 :: o14 :: o15 :: o16 :: o17 :: o18 :: o19 :: o20 :: o21 :: o22 :: o23 :: o24 :: o25 :: o26 :: o27 :: o28 :: o29 :: o30 :: r)) S o30 v a) (hS : S w)
  (h : wpAnyH P md (List.toArray (o0 :: o1 :: o2 :: o3 :: o4 :: o5 :: o6 :: o7 :: o8 :: o9 :: o10 :: o11 :: o12 :: o13 :: o14 :: o15 :: o16 :: o17 :: o18 :: o19 :: o20 :: o21 :: o22 :: o23 :: o24 :: o25 :: o26 :: o27 :: o28 :: o29 :: o30 :: r)) Q S fuel (listed.setIfInBounds 30 true) (a.put o30.dst v) w) : wpAnyH P md (List.toArray (o0 :: o1 :: o2 :: o3 :: o4 :: o5 :: o6 :: o7 :: o8 :: o9 :: o10 :: o11 :: o12 :: o13 :: o14 :: o15 :: o16 :: o17 :: o18 :: o19 :: o20 :: o21 :: o22 :: o23 :: o24 :: o25 :: o26 :: o27 :: o28 :: o29 :: o30 :: r)) Q S (fuel + 1) listed a w := wpAnyH_take (i := 30) rfl hs hf hr hQ hy hS h
theorem tk31 {o0 o1 o2 o3 o4 o5 o6 o7 o8 o9 o10 o11 o12 o13 o14 o15 o16 o17 o18 o19 o20 o21 o22 o23 o24 o25 o26 o27 o28 o29 o30 o31 : Oper} {r : List Oper} {v : Value} {fuel : Nat} {listed : Array Bool} {a : Act} {w : World} (hs : Region.noSelect (List.toArray (o0 :: o1 :: o2 :: o3 :: o4 :: o5 :: o6 :: o7 :: o8 :: o9 :: o10 :: o11 :: o12 :: o13 :: o14 :: o15 :: o16 :: o17 :: o18 :: o19 :: o20 :: o21 :: o22 :: o23 :: o24 :: o25 :: o26 :: o27 :: o28 :: o29 :: o30 :: o31 :: r)) = true) (hf : Region.free md (List.toArray (o0 :: o1 :: o2 :: o3 :: o4 :: o5 :: o6 :: o7 :: o8 :: o9 :: o10 :: o11 :: o12 :: o13 :: o14 :: o15 :: o16 :: o17 :: o18 :: o19 :: o20 :: o21 :: o22 :: o23 :: o24 :: o25 :: o26 :: o27 :: o28 :: o29 :: o30 :: o31 :: r)) listed 31 = true)
  (hr : (Region.ready md (List.toArray (o0 :: o1 :: o2 :: o3 :: o4 :: o5 :: o6 :: o7 :: o8 :: o9 :: o10 :: o11 :: o12 :: o13 :: o14 :: o15 :: o16 :: o17 :: o18 :: o19 :: o20 :: o21 :: o22 :: o23 :: o24 :: o25 :: o26 :: o27 :: o28 :: o29 :: o30 :: o31 :: r)) listed).contains 31 = true) (hQ : ∀ c a w, Q (.panic c) (a.put o31.dst v) w → Q (.panic c) a w) (hy : YieldsIf P (List.toArray (o0 :: o1 :: o2 :: o3 :: o4 :: o5 :: o6 :: o7 :: o8 :: o9 :: o10 :: o11 :: o12 :: o13 :: o14 :: o15 :: o16 :: o17 :: o18 :: o19 :: o20 :: o21 :: o22 :: o23 :: o24 :: o25 :: o26 :: o27 :: o28 :: o29 :: o30 :: o31 :: r)) S o31 v a) (hS : S w)
  (h : wpAnyH P md (List.toArray (o0 :: o1 :: o2 :: o3 :: o4 :: o5 :: o6 :: o7 :: o8 :: o9 :: o10 :: o11 :: o12 :: o13 :: o14 :: o15 :: o16 :: o17 :: o18 :: o19 :: o20 :: o21 :: o22 :: o23 :: o24 :: o25 :: o26 :: o27 :: o28 :: o29 :: o30 :: o31 :: r)) Q S fuel (listed.setIfInBounds 31 true) (a.put o31.dst v) w) : wpAnyH P md (List.toArray (o0 :: o1 :: o2 :: o3 :: o4 :: o5 :: o6 :: o7 :: o8 :: o9 :: o10 :: o11 :: o12 :: o13 :: o14 :: o15 :: o16 :: o17 :: o18 :: o19 :: o20 :: o21 :: o22 :: o23 :: o24 :: o25 :: o26 :: o27 :: o28 :: o29 :: o30 :: o31 :: r)) Q S (fuel + 1) listed a w := wpAnyH_take (i := 31) rfl hs hf hr hQ hy hS h
theorem st31 {o0 o1 o2 o3 o4 o5 o6 o7 o8 o9 o10 o11 o12 o13 o14 o15 o16 o17 o18 o19 o20 o21 o22 o23 o24 o25 o26 o27 o28 o29 o30 o31 : Oper} {r : List Oper} {fuel : Nat} {listed : Array Bool} {a : Act} {w : World} {rs : List Nat}
  (h : ∀ K' : Act → World → Prop, Shut (∀ a w, S w → (S w → wpAnyH P md (List.toArray (o0 :: o1 :: o2 :: o3 :: o4 :: o5 :: o6 :: o7 :: o8 :: o9 :: o10 :: o11 :: o12 :: o13 :: o14 :: o15 :: o16 :: o17 :: o18 :: o19 :: o20 :: o21 :: o22 :: o23 :: o24 :: o25 :: o26 :: o27 :: o28 :: o29 :: o30 :: o31 :: r)) Q S fuel (listed.setIfInBounds 31 true) a w) → K' a w) → if Region.wanted o31 (yielded (List.toArray (o0 :: o1 :: o2 :: o3 :: o4 :: o5 :: o6 :: o7 :: o8 :: o9 :: o10 :: o11 :: o12 :: o13 :: o14 :: o15 :: o16 :: o17 :: o18 :: o19 :: o20 :: o21 :: o22 :: o23 :: o24 :: o25 :: o26 :: o27 :: o28 :: o29 :: o30 :: o31 :: r)) a.tmps) = true then Oper.wp P o31 a w K' Q else K' (a.put o31.dst undef) w)
  (hs : AllReadyH P md (List.toArray (o0 :: o1 :: o2 :: o3 :: o4 :: o5 :: o6 :: o7 :: o8 :: o9 :: o10 :: o11 :: o12 :: o13 :: o14 :: o15 :: o16 :: o17 :: o18 :: o19 :: o20 :: o21 :: o22 :: o23 :: o24 :: o25 :: o26 :: o27 :: o28 :: o29 :: o30 :: o31 :: r)) Q S fuel listed a w rs) : AllReadyH P md (List.toArray (o0 :: o1 :: o2 :: o3 :: o4 :: o5 :: o6 :: o7 :: o8 :: o9 :: o10 :: o11 :: o12 :: o13 :: o14 :: o15 :: o16 :: o17 :: o18 :: o19 :: o20 :: o21 :: o22 :: o23 :: o24 :: o25 :: o26 :: o27 :: o28 :: o29 :: o30 :: o31 :: r)) Q S fuel listed a w (31 :: rs) := AllReadyH.cons (i := 31) rfl h hs
theorem st32 {o0 o1 o2 o3 o4 o5 o6 o7 o8 o9 o10 o11 o12 o13 o14 o15 o16 o17 o18 o19 o20 o21 o22 o23 o24 o25 o26 o27 o28 o29 o30 o31 o32 : Oper} {r : List Oper} {fuel : Nat} {listed : Array Bool} {a : Act} {w : World} {rs : List Nat}
  (h : ∀ K' : Act → World → Prop, Shut (∀ a w, S w → (S w → wpAnyH P md (List.toArray (o0 :: o1 :: o2 :: o3 :: o4 :: o5 :: o6 :: o7 :: o8 :: o9 :: o10 :: o11 :: o12 :: o13 :: o14 :: o15 :: o16 :: o17 :: o18 :: o19 :: o20 :: o21 :: o22 :: o23 :: o24 :: o25 :: o26 :: o27 :: o28 :: o29 :: o30 :: o31 :: o32 :: r)) Q S fuel (listed.setIfInBounds 32 true) a w) → K' a w) → if Region.wanted o32 (yielded (List.toArray (o0 :: o1 :: o2 :: o3 :: o4 :: o5 :: o6 :: o7 :: o8 :: o9 :: o10 :: o11 :: o12 :: o13 :: o14 :: o15 :: o16 :: o17 :: o18 :: o19 :: o20 :: o21 :: o22 :: o23 :: o24 :: o25 :: o26 :: o27 :: o28 :: o29 :: o30 :: o31 :: o32 :: r)) a.tmps) = true then Oper.wp P o32 a w K' Q else K' (a.put o32.dst undef) w)
  (hs : AllReadyH P md (List.toArray (o0 :: o1 :: o2 :: o3 :: o4 :: o5 :: o6 :: o7 :: o8 :: o9 :: o10 :: o11 :: o12 :: o13 :: o14 :: o15 :: o16 :: o17 :: o18 :: o19 :: o20 :: o21 :: o22 :: o23 :: o24 :: o25 :: o26 :: o27 :: o28 :: o29 :: o30 :: o31 :: o32 :: r)) Q S fuel listed a w rs) : AllReadyH P md (List.toArray (o0 :: o1 :: o2 :: o3 :: o4 :: o5 :: o6 :: o7 :: o8 :: o9 :: o10 :: o11 :: o12 :: o13 :: o14 :: o15 :: o16 :: o17 :: o18 :: o19 :: o20 :: o21 :: o22 :: o23 :: o24 :: o25 :: o26 :: o27 :: o28 :: o29 :: o30 :: o31 :: o32 :: r)) Q S fuel listed a w (32 :: rs) := AllReadyH.cons (i := 32) rfl h hs
theorem tk33 {o0 o1 o2 o3 o4 o5 o6 o7 o8 o9 o10 o11 o12 o13 o14 o15 o16 o17 o18 o19 o20 o21 o22 o23 o24 o25 o26 o27 o28 o29 o30 o31 o32 o33 : Oper} {r : List Oper} {v : Value} {fuel : Nat} {listed : Array Bool} {a : Act} {w : World} (hs : Region.noSelect (List.toArray (o0 :: o1 :: o2 :: o3 :: o4 :: o5 :: o6 :: o7 :: o8 :: o9 :: o10 :: o11 :: o12 :: o13 :: o14 :: o15 :: o16 :: o17 :: o18 :: o19 :: o20 :: o21 :: o22 :: o23 :: o24 :: o25 :: o26 :: o27 :: o28 :: o29 :: o30 :: o31 :: o32 :: o33 :: r)) = true) (hf : Region.free md (List.toArray (o0 :: o1 :: o2 :: o3 :: o4 :: o5 :: o6 :: o7 :: o8 :: o9 :: o10 :: o11 :: o12 :: o13 :: o14 :: o15 :: o16 :: o17 :: o18 :: o19 :: o20 :: o21 :: o22 :: o23 :: o24 :: o25 :: o26 :: o27 :: o28 :: o29 :: o30 :: o31 :: o32 :: o33 :: r)) listed 33 = true)
  (hr : (Region.ready md (List.toArray (o0 :: o1 :: o2 :: o3 :: o4 :: o5 :: o6 :: o7 :: o8 :: o9 :: o10 :: o11 :: o12 :: o13 :: o14 :: o15 :: o16 :: o17 :: o18 :: o19 :: o20 :: o21 :: o22 :: o23 :: o24 :: o25 :: o26 :: o27 :: o28 :: o29 :: o30 :: o31 :: o32 :: o33 :: r)) listed).contains 33 = true) (hQ : ∀ c a w, Q (.panic c) (a.put o33.dst v) w → Q (.panic c) a w) (hy : YieldsIf P (List.toArray (o0 :: o1 :: o2 :: o3 :: o4 :: o5 :: o6 :: o7 :: o8 :: o9 :: o10 :: o11 :: o12 :: o13 :: o14 :: o15 :: o16 :: o17 :: o18 :: o19 :: o20 :: o21 :: o22 :: o23 :: o24 :: o25 :: o26 :: o27 :: o28 :: o29 :: o30 :: o31 :: o32 :: o33 :: r)) S o33 v a) (hS : S w)
  (h : wpAnyH P md (List.toArray (o0 :: o1 :: o2 :: o3 :: o4 :: o5 :: o6 :: o7 :: o8 :: o9 :: o10 :: o11 :: o12 :: o13 :: o14 :: o15 :: o16 :: o17 :: o18 :: o19 :: o20 :: o21 :: o22 :: o23 :: o24 :: o25 :: o26 :: o27 :: o28 :: o29 :: o30 :: o31 :: o32 :: o33 :: r)) Q S fuel (listed.setIfInBounds 33 true) (a.put o33.dst v) w) : wpAnyH P md (List.toArray (o0 :: o1 :: o2 :: o3 :: o4 :: o5 :: o6 :: o7 :: o8 :: o9 :: o10 :: o11 :: o12 :: o13 :: o14 :: o15 :: o16 :: o17 :: o18 :: o19 :: o20 :: o21 :: o22 :: o23 :: o24 :: o25 :: o26 :: o27 :: o28 :: o29 :: o30 :: o31 :: o32 :: o33 :: r)) Q S (fuel + 1) listed a w := wpAnyH_take (i := 33) rfl hs hf hr hQ hy hS h
theorem tk34 {o0 o1 o2 o3 o4 o5 o6 o7 o8 o9 o10 o11 o12 o13 o14 o15 o16 o17 o18 o19 o20 o21 o22 o23 o24 o25 o26 o27 o28 o29 o30 o31 o32 o33 o34 : Oper} {r : List Oper} {v : Value} {fuel : Nat} {listed : Array Bool} {a : Act} {w : World} (hs : Region.noSelect (List.toArray (o0 :: o1 :: o2 :: o3 :: o4 :: o5 :: o6 :: o7 :: o8 :: o9 :: o10 :: o11 :: o12 :: o13 :: o14 :: o15 :: o16 :: o17 :: o18 :: o19 :: o20 :: o21 :: o22 :: o23 :: o24 :: o25 :: o26 :: o27 :: o28 :: o29 :: o30 :: o31 :: o32 :: o33 :: o34 :: r)) = true) (hf : Region.free md (List.toArray (o0 :: o1 :: o2 :: o3 :: o4 :: o5 :: o6 :: o7 :: o8 :: o9 :: o10 :: o11 :: o12 :: o13 :: o14 :: o15 :: o16 :: o17 :: o18 :: o19 :: o20 :: o21 :: o22 :: o23 :: o24 :: o25 :: o26 :: o27 :: o28 :: o29 :: o30 :: o31 :: o32 :: o33 :: o34 :: r)) listed 34 = true)
  (hr : (Region.ready md (List.toArray (o0 :: o1 :: o2 :: o3 :: o4 :: o5 :: o6 :: o7 :: o8 :: o9 :: o10 :: o11 :: o12 :: o13 :: o14 :: o15 :: o16 :: o17 :: o18 :: o19 :: o20 :: o21 :: o22 :: o23 :: o24 :: o25 :: o26 :: o27 :: o28 :: o29 :: o30 :: o31 :: o32 :: o33 :: o34 :: r)) listed).contains 34 = true) (hQ : ∀ c a w, Q (.panic c) (a.put o34.dst v) w → Q (.panic c) a w) (hy : YieldsIf P (List.toArray (o0 :: o1 :: o2 :: o3 :: o4 :: o5 :: o6 :: o7 :: o8 :: o9 :: o10 :: o11 :: o12 :: o13 :: o14 :: o15 :: o16 :: o17 :: o18 :: o19 :: o20 :: o21 :: o22 :: o23 :: o24 :: o25 :: o26 :: o27 :: o28 :: o29 :: o30 :: o31 :: o32 :: o33 :: o34 :: r)) S o34 v a) (hS : S w)
  (h : wpAnyH P md (List.toArray (o0 :: o1 :: o2 :: o3 :: o4 :: o5 :: o6 :: o7 :: o8 :: o9 :: o10 :: o11 :: o12 :: o13 :: o14 :: o15 :: o16 :: o17 :: o18 :: o19 :: o20 :: o21 :: o22 :: o23 :: o24 :: o25 :: o26 :: o27 :: o28 :: o29 :: o30 :: o31 :: o32 :: o33 :: o34 :: r)) Q S fuel (listed.setIfInBounds 34 true) (a.put o34.dst v) w) : wpAnyH P md (List.toArray (o0 :: o1 :: o2 :: o3 :: o4 :: o5 :: o6 :: o7 :: o8 :: o9 :: o10 :: o11 :: o12 :: o13 :: o14 :: o15 :: o16 :: o17 :: o18 :: o19 :: o20 :: o21 :: o22 :: o23 :: o24 :: o25 :: o26 :: o27 :: o28 :: o29 :: o30 :: o31 :: o32 :: o33 :: o34 :: r)) Q S (fuel + 1) listed a w := wpAnyH_take (i := 34) rfl hs hf hr hQ hy hS h
end
end Go.Proofs.Ytoaonficdkgfiaa
namespace Go.Proofs.Ytoaonficdkgfiaa
open Go.RowKit Un

set_option maxRecDepth 100000 in
set_option maxHeartbeats 8000000 in
theorem rproduct_any (s : Int) (u v : U) (w : World) (hu : sU u) (hv : sU v) (hs : s = 1 ∨ s = -1) :
  Calls Try.prog 79 #[.agg #[.bool u.f, .int .i64 u.m, .int .i64 u.a, .int .i64 u.d], .agg #[.bool v.f, .int .i64 v.m, .int .i64 v.a, .int .i64 v.d], .int .i64 s] w fun e w' => e = .returned (.tuple #[uV (mulU s u v), .bool (!u.f && !v.f && (expo (mulU s u v).m && (expo (mulU s u v).a && expo (mulU s u v).d)))]) ∧ RowKit.Below w.heap.size w w' := by
 have HQ : Hid ((mulU s u v) = ⟨false, u.m + s * v.m, u.a + s * v.a, u.d + s * v.d⟩) := rfl
 obtain ⟨uf, um, ua, ud⟩ := u
 obtain ⟨vf, vm, va, vd⟩ := v
 obtain ⟨u1, u2, u3, u4, u5, u6⟩ := hu
 obtain ⟨v1, v2, v3, v4, v5, v6⟩ := hv
 simp only at HQ u1 u2 u3 u4 u5 u6 v1 v2 v3 v4 v5 v6 ⊢
 rw [HQ.out]
 simp only
 have ma : ∃ sm, sm = s * vm ∧ -3 ≤ sm ∧ sm ≤ 3 := by rcases hs with rfl | rfl <;> exact ⟨_, rfl, by omega, by omega⟩
 have mb : ∃ sm, sm = s * va ∧ -3 ≤ sm ∧ sm ≤ 3 := by rcases hs with rfl | rfl <;> exact ⟨_, rfl, by omega, by omega⟩
 have mc : ∃ sm, sm = s * vd ∧ -3 ≤ sm ∧ sm ≤ 3 := by rcases hs with rfl | rfl <;> exact ⟨_, rfl, by omega, by omega⟩
 obtain ⟨sm, hsm, sm1, sm2⟩ := ma
 obtain ⟨sa, hsa, sa1, sa2⟩ := mb
 obtain ⟨sd, hsd, sd1, sd2⟩ := mc
 rw [← hsm, ← hsa, ← hsd]
 have ew1 : IntKind.i64.wrap (s * vm) = sm := by rw [← hsm]; exact w64 (by omega) (by omega)
 have ew2 : IntKind.i64.wrap (s * va) = sa := by rw [← hsa]; exact w64 (by omega) (by omega)
 have ew3 : IntKind.i64.wrap (s * vd) = sd := by rw [← hsd]; exact w64 (by omega) (by omega)
 obtain ⟨x, hx⟩ : ∃ x, x = um + sm := ⟨_, rfl⟩
 obtain ⟨y, hy⟩ : ∃ y, y = ua + sa := ⟨_, rfl⟩
 obtain ⟨z, hz⟩ : ∃ z, z = ud + sd := ⟨_, rfl⟩
 rw [← hx, ← hy, ← hz]
 have ew4 : IntKind.i64.wrap (um + sm) = x := by rw [← hx]; exact w64 (by omega) (by omega)
 have ew5 : IntKind.i64.wrap (ua + sa) = y := by rw [← hy]; exact w64 (by omega) (by omega)
 have ew6 : IntKind.i64.wrap (ud + sd) = z := by rw [← hz]; exact w64 (by omega) (by omega)
 have KX : Hid (∀ (w : World), Calls Try.prog 92 #[.int .i64 x] w fun e w' => e = .returned (.bool (expo x)) ∧ w' = w) := fun w => rexponent_any x w
 have KY : Hid (∀ (w : World), Calls Try.prog 92 #[.int .i64 y] w fun e w' => e = .returned (.bool (expo y)) ∧ w' = w) := fun w => rexponent_any y w
 have KZ : Hid (∀ (w : World), Calls Try.prog 92 #[.int .i64 z] w fun e w' => e = .returned (.bool (expo z)) ∧ w' = w) := fun w => rexponent_any z w
 generalize expo x = ex at *
 generalize expo y = ey at *
 generalize expo z = ez at *
 clear hx hy hz hsm hsa hsd hs u1 u2 u3 u4 u5 u6 v1 v2 v3 v4 v5 v6 HQ sm1 sm2 sa1 sa2 sd1 sd2
 go_enter Try.func79, Try.ntmps79
 go_wp2_with fail
 refine (KX.out _).mono ?_
 rintro _ _ ⟨rfl, rfl⟩
 go_wp2_with fail
 refine (KY.out _).mono ?_
 rintro _ _ ⟨rfl, rfl⟩
 go_wp2_with fail
 refine (KZ.out _).mono ?_
 rintro _ _ ⟨rfl, rfl⟩
 go_wp2_with fail
 all_goals
  exact bodyPost_ret (v := .tuple #[.agg #[.bool false, .int .i64 x, .int .i64 y, .int .i64 z], .bool (!uf && !vf && (ex && (ey && ez)))]) (by simp [results, Try.results79, go_sem, *]) rfl ⟨by simp [uV, uC], (by repeat' (first | (with_reducible refine Below.setCell ?_ ?_ _) | (with_reducible refine Below.alloc ?_ ?_ _) | (with_reducible exact Below.refl _ _) | omega | (simp; done) | (simp; omega)))⟩
end Go.Proofs.Ytoaonficdkgfiaa
namespace Go.Proofs.Ytoaonficdkgfiaa
open Go.RowKit Un

mutual
theorem left_bd : ∀ (t : Nd) (g m : Int), 0 ≤ m → -1 ≤ left g m t ∧ left g m t ≤ m
 | .mk op pl nm n d u ks, g, m, h => by
  simp only [left]
  split
  ·omega
  ·have := lefts_bd ks (g - 1) (m - 1) (by omega)
   omega
theorem lefts_bd : ∀ (ks : List Nd) (g m : Int), -1 ≤ m → -1 ≤ lefts g m ks ∧ lefts g m ks ≤ m
 | [], g, m, h => by simp only [lefts]; omega
 | k :: ks, g, m, h => by
  simp only [lefts]
  split
  ·rename_i hm
   have h1 := left_bd k g m hm
   have h2 := lefts_bd ks g (left g m k) h1.1
   omega
  ·omega
end
theorem lefts_drop (g m : Int) (ks : List Nd) (i : Nat) (h : i < ks.length) (hm : 0 ≤ m) : lefts g m (ks.drop i) = lefts g (left g m ks[i]) (ks.drop (i + 1)) := by
 rw [List.drop_eq_getElem_cons h]
 simp only [lefts]
 rw [if_pos hm]
theorem lefts_neg (g m : Int) : ∀ (ks : List Nd), m < 0 → lefts g m ks = m
 | [], _ => by simp only [lefts]
 | k :: ks, h => by simp only [lefts]; rw [if_neg (by omega)]
set_option maxRecDepth 100000 in
set_option maxHeartbeats 8000000 in
theorem lsize_any (N : Nat) : ∀ (t : Nd), size t ≤ N → ∀ (g m : Int), 0 ≤ g → g ≤ 1000 → 0 ≤ m → m ≤ 1000 → ∀ (A : Nat → Prop) (x : Kd) (w : World), NdM w A t x → Calls Try.prog 34 #[nV t x, .int .i64 g, .int .i64 m] w fun e w' => e = .returned (.int .i64 (left g m t)) ∧ RowKit.Below w.heap.size w w' := by
 induction N with
 | zero => intro t h; cases t; simp [size] at h
 | succ N ih =>
  intro t hN g m hg1 hg2 hm1 hm2 A x w hx
  obtain ⟨op, pl, nm, n0, d0, ⟨uf, um, ua, ud⟩, ks⟩ := t
  simp only [size] at hN
  simp only [NdM] at hx
  obtain ⟨bq, off, hp, hkl, hK⟩ := hx
  obtain ⟨xq, xc⟩ := x
  simp only at hp
  have KM := Lib.hid (fun (i : Nat) (hi : i < ks.length) (m : Int) (h1 : 1 ≤ g) (h2 : 0 ≤ m) (h3 : m ≤ 1000) => ih ks[i] (by have := size_get ks i hi; omega) (g - 1) m (by omega) (by omega) h2 h3 A)
  clear ih
  obtain ⟨R, hR⟩ : ∃ R, R = left g m (.mk op pl nm n0 d0 ⟨uf, um, ua, ud⟩ ks) := ⟨_, rfl⟩
  rw [← hR]
  have HR : Hid (R = if g < 1 ∨ 100 < nm.length then -1 else lefts (g - 1) (m - 1) ks) := by rw [hR]; exact left.eq_1 ..
  clear hR
  show Calls _ _ #[.agg #[.int .i64 op, .int .i64 pl, .string (bs nm), .int .i64 n0, .int .i64 d0, .bool uf, .int .i64 um, .int .i64 ua, .int .i64 ud, .slice xq ks.length xc], .int .i64 g, .int .i64 m] _ _
  have hsl : (bs nm).size = nm.length := bs_size nm
  have e0 : IntKind.i64.wrap (m - 1) = m - 1 := by rw [IntWalk.i64_in _ (by omega)]
  have e1 : IntKind.i64.wrap (g - 1) = g - 1 := by rw [IntWalk.i64_in _ (by omega)]
  generalize bs nm = s at *
  obtain ⟨W1, hW1⟩ : ∃ W1, W1 = w.alloc (.cells #[.int .i64 op, .int .i64 pl, .string s, .int .i64 n0, .int .i64 d0, .bool uf, .int .i64 um, .int .i64 ua, .int .i64 ud, .slice xq ks.length xc] 32) := ⟨_, rfl⟩
  have HB : Hid (RowKit.Below w.heap.size w W1 ∧ W1.cell? ⟨w.heap.size, 9, none⟩ = some (.slice xq ks.length xc)) := by rw [hW1]; exact ⟨(Below.refl _ _).alloc (Nat.le_refl _) _, by simp⟩
  have HK := Lib.hid hK
  have HP := Lib.hid hp
  clear hK hp
  by_cases hg : g < 1
  ·have HRF : Hid (R = -1) := by show _ = _; rw [HR.out, if_pos (.inl hg)]
   go_enter Try.func34, Try.ntmps34
   go_wp2_with fail
   go_ret
   rw [← hW1]
   exact ⟨ret_i64 HRF.out.symm, HB.out.1⟩
  ·by_cases hl : 100 < nm.length
   ·have hl2 : (100 : Int) < (s.size : Int) := by omega
    have HRF : Hid (R = -1) := by show _ = _; rw [HR.out, if_pos (.inr hl)]
    go_enter Try.func34, Try.ntmps34
    go_wp2_with fail
    go_ret
    rw [← hW1]
    exact ⟨ret_i64 HRF.out.symm, HB.out.1⟩
   ·have hl2 : ¬ (100 : Int) < (s.size : Int) := by omega
    have HRF : Hid (R = lefts (g - 1) (m - 1) ks) := by show _ = _; rw [HR.out, if_neg (by omega)]
    clear HR
    go_enter Try.func34, Try.ntmps34
    go_wp2_with fail
    rw [← hW1]
    have hsz : W1.heap.size = w.heap.size + 1 := by rw [hW1]; simp
    clear hW1 e0
    go_loopg [2, 7] ks.length (fun gg v2 v7 wr => ∃ (i : Nat) (k : Int), i ≤ ks.length ∧ ks.length - i ≤ gg ∧ v2 = .int .i64 k ∧ v7 = .int .i64 i ∧ -1 ≤ k ∧ k ≤ 1000 ∧ Hid (R = lefts (g - 1) k (ks.drop i)) ∧ Hid (RowKit.Below W1.heap.size W1 wr))
    case atStart => exact ⟨0, m - 1, Nat.zero_le _, by omega, rfl, by simp, by omega, by omega, HRF, Below.refl _ _⟩
    case round =>
     obtain ⟨i, k, hi, hgg, rfl, rfl, hk1, hk2, HM, HW⟩ := hrel
     have q9 : wr.cell? ⟨w.heap.size, 9, none⟩ = some (.slice xq ks.length xc) := (HW.out.cell (p := ⟨w.heap.size, 9, none⟩) (by show w.heap.size < W1.heap.size; omega)).trans HB.out.2
     have HW2 := Lib.hid (HB.out.1.trans (HW.out.mono (by omega)))
     by_cases hlt : i < ks.length
     ·have hz : (i : Int) < (ks.length : Int) := by omega
      by_cases hk0 : 0 ≤ k
      ·have hq := (HP.out (by omega)).1
       have hbq := (HP.out (by omega)).2.2
       subst hq
       obtain ⟨⟨yq, yc⟩, hc, hn⟩ := KdM.get (KdM.keep HW2.out.size (fun j _ hj => HW2.out.block j hj) (fun _ h _ => h) bq (HP.out (by omega)).2.1 hbq off ks HK.out) i hlt
       have KQ := Lib.hid (KM.out i hlt k (by omega) hk0 hk2 _ _ hn)
       have E3 := Lib.hid (HM.out.trans (lefts_drop (g - 1) k ks i hlt hk0))
       have E4 := Lib.hid (left_bd ks[i] (g - 1) k hk0)
       clear hn
       generalize ks[i] = kk at *
       obtain ⟨op', pl', nm', n', d', ⟨uf', um', ua', ud'⟩, ks'⟩ := kk
       generalize left (g - 1) k (.mk op' pl' nm' n' d' ⟨uf', um', ua', ud'⟩ ks') = mi at *
       simp only [nC] at hc
       simp only [nV, nC] at KQ
       have z0 := hc 0 _ rfl
       have z1 := hc 1 _ rfl
       have z2 := hc 2 _ rfl
       have z3 := hc 3 _ rfl
       have z4 := hc 4 _ rfl
       have z5 := hc 5 _ rfl
       have z6 := hc 6 _ rfl
       have z7 := hc 7 _ rfl
       have z8 := hc 8 _ rfl
       have z9 := hc 9 _ rfl
       rw [Nat.add_zero] at z0
       have e2 : IntKind.i64.wrap ((i : Int) + 1) = ((i + 1 : Nat) : Int) := by rw [IntWalk.i64_in _ (by omega)]; rfl
       clear hc
       go_wp2_with fail
       clear z0 z1 z2 z3 z4 z5 z6 z7 z8 z9 q9
       refine KQ.out.mono ?_
       rintro _ v ⟨rfl, hb⟩
       have HW3 := Lib.hid (HW.out.trans (hb.mono HW.out.size))
       clear hb HW2 KQ
       go_wp2_with fail
       all_goals
        go_roundg (ks.length - (i + 1))
        case measure => omega
        case rel => exact ⟨i + 1, mi, by omega, Nat.le_refl _, rfl, by simp, E4.out.1, by have := E4.out.2; omega, E3, HW3⟩
      ·have HRE : Hid (R = k) := by show _ = _; rw [HM.out, lefts_neg _ _ _ (by omega)]
       go_wp2_with fail
       go_ret
       exact ⟨ret_i64 HRE.out.symm, HW2.out⟩
     ·have hz : ¬ (i : Int) < (ks.length : Int) := by omega
      have hie : i = ks.length := by omega
      subst hie
      have HRE : Hid (R = k) := by show _ = _; rw [HM.out, List.drop_length]; rfl
      go_wp2_with fail
      go_ret
      exact ⟨ret_i64 HRE.out.symm, HW2.out⟩
set_option maxRecDepth 100000 in
set_option maxHeartbeats 8000000 in
theorem lFewNode_any (t : Nd) (A : Nat → Prop) (x : Kd) (w : World) (hx : NdM w A t x) :
  Calls Try.prog 12 #[nV t x] w fun e w' => e = .returned (.bool (decide (0 ≤ left 30 400 t))) ∧ RowKit.Below w.heap.size w w' := by
 have KT : Hid (∀ V, RowKit.Below w.heap.size w V → Calls Try.prog 34 #[nV t x, .int .i64 30, .int .i64 400] V fun e w' => e = .returned (.int .i64 (left 30 400 t)) ∧ RowKit.Below w.heap.size w w') := fun V hV =>
  (lsize_any (size t) t (Nat.le_refl _) 30 400 (by omega) (by omega) (by omega) (by omega) A x V (NdM.bel hV hx)).mono (fun _ _ ⟨a, d⟩ => ⟨a, hV.trans (d.mono hV.size)⟩)
 clear hx
 obtain ⟨op, pl, nm, n0, d0, ⟨uf, um, ua, ud⟩, ks⟩ := t
 obtain ⟨xq, xc⟩ := x
 generalize left 30 400 (.mk op pl nm n0 d0 ⟨uf, um, ua, ud⟩ ks) = R at *
 simp only [nV, nC] at KT ⊢
 have HB := Lib.hid (Below.refl w.heap.size w)
 by_cases hR : 0 ≤ R
 ·go_enter Try.func12, Try.ntmps12
  go_wp2_with fail
  refine (KT.out _ (by repeat' (first | (with_reducible exact HB.out) | (with_reducible refine Below.setCell ?_ ?_ _) | (with_reducible refine Below.alloc ?_ ?_ _) | (with_reducible refine Below.drew ?_) | (with_reducible refine below_drewN ?_ _) | (with_reducible exact Below.refl _ _) | omega | (simp; done) | (simp; omega)))).mono ?_
  rintro _ v ⟨rfl, hb⟩
  have HBB := Lib.hid hb
  clear hb KT
  go_wp2_with fail
  go_ret
  exact ⟨ret_bool (decide_eq_true hR).symm, HBB.out⟩
 ·go_enter Try.func12, Try.ntmps12
  go_wp2_with fail
  refine (KT.out _ (by repeat' (first | (with_reducible exact HB.out) | (with_reducible refine Below.setCell ?_ ?_ _) | (with_reducible refine Below.alloc ?_ ?_ _) | (with_reducible refine Below.drew ?_) | (with_reducible refine below_drewN ?_ _) | (with_reducible exact Below.refl _ _) | omega | (simp; done) | (simp; omega)))).mono ?_
  rintro _ v ⟨rfl, hb⟩
  have HBB := Lib.hid hb
  clear hb KT
  go_wp2_with fail
  go_ret
  exact ⟨ret_bool (by first | rfl | simp; omega), HBB.out⟩
end Go.Proofs.Ytoaonficdkgfiaa
