/-
  Takes and steps of a region whose order is open, number by number: the operation stands written out.
  The law's head: the examples.
-/
import Derived.Test.YtedbpjcglnkjmaaGreatDoorZC
import Derived.Test.YtedbpjcglnkjmaaGreatDoorZO
import Derived.Deep.RegionHeld3
namespace Go.Proofs.YtedbpjcglnkjmaaGreatDoor
open Go.RowKit

section
variable {P : Program} {md : Region.Mode} {Q : Exit → Act → World → Prop} {S : World → Prop}
theorem tk16 {o0 o1 o2 o3 o4 o5 o6 o7 o8 o9 o10 o11 o12 o13 o14 o15 o16 : Oper} {r : List Oper} {v : Value} {fuel : Nat} {listed : Array Bool} {a : Act} {w : World} (hs : Region.noSelect (List.toArray (o0 :: o1 :: o2 :: o3 :: o4 :: o5 :: o6 :: o7 :: o8 :: o9 :: o10 :: o11 :: o12 :: o13 :: o14 :: o15 :: o16 :: r)) = true) (hf : Region.free md (List.toArray (o0 :: o1 :: o2 :: o3 :: o4 :: o5 :: o6 :: o7 :: o8 :: o9 :: o10 :: o11 :: o12 :: o13 :: o14 :: o15 :: o16 :: r)) listed 16 = true)
    (hr : (Region.ready md (List.toArray (o0 :: o1 :: o2 :: o3 :: o4 :: o5 :: o6 :: o7 :: o8 :: o9 :: o10 :: o11 :: o12 :: o13 :: o14 :: o15 :: o16 :: r)) listed).contains 16 = true) (hQ : ∀ c a w, Q (.panic c) (a.put o16.dst v) w → Q (.panic c) a w) (hy : YieldsIf P (List.toArray (o0 :: o1 :: o2 :: o3 :: o4 :: o5 :: o6 :: o7 :: o8 :: o9 :: o10 :: o11 :: o12 :: o13 :: o14 :: o15 :: o16 :: r)) S o16 v a) (hS : S w)
    (h : wpAnyH P md (List.toArray (o0 :: o1 :: o2 :: o3 :: o4 :: o5 :: o6 :: o7 :: o8 :: o9 :: o10 :: o11 :: o12 :: o13 :: o14 :: o15 :: o16 :: r)) Q S fuel (listed.setIfInBounds 16 true) (a.put o16.dst v) w) : wpAnyH P md (List.toArray (o0 :: o1 :: o2 :: o3 :: o4 :: o5 :: o6 :: o7 :: o8 :: o9 :: o10 :: o11 :: o12 :: o13 :: o14 :: o15 :: o16 :: r)) Q S (fuel + 1) listed a w := wpAnyH_take (i := 16) rfl hs hf hr hQ hy hS h
theorem st16 {o0 o1 o2 o3 o4 o5 o6 o7 o8 o9 o10 o11 o12 o13 o14 o15 o16 : Oper} {r : List Oper} {fuel : Nat} {listed : Array Bool} {a : Act} {w : World} {rs : List Nat}
    (h : ∀ K' : Act → World → Prop, Shut (∀ a w, S w → (S w → wpAnyH P md (List.toArray (o0 :: o1 :: o2 :: o3 :: o4 :: o5 :: o6 :: o7 :: o8 :: o9 :: o10 :: o11 :: o12 :: o13 :: o14 :: o15 :: o16 :: r)) Q S fuel (listed.setIfInBounds 16 true) a w) → K' a w) → if Region.wanted o16 (yielded (List.toArray (o0 :: o1 :: o2 :: o3 :: o4 :: o5 :: o6 :: o7 :: o8 :: o9 :: o10 :: o11 :: o12 :: o13 :: o14 :: o15 :: o16 :: r)) a.tmps) = true then Oper.wp P o16 a w K' Q else K' (a.put o16.dst undef) w)
    (hs : AllReadyH P md (List.toArray (o0 :: o1 :: o2 :: o3 :: o4 :: o5 :: o6 :: o7 :: o8 :: o9 :: o10 :: o11 :: o12 :: o13 :: o14 :: o15 :: o16 :: r)) Q S fuel listed a w rs) : AllReadyH P md (List.toArray (o0 :: o1 :: o2 :: o3 :: o4 :: o5 :: o6 :: o7 :: o8 :: o9 :: o10 :: o11 :: o12 :: o13 :: o14 :: o15 :: o16 :: r)) Q S fuel listed a w (16 :: rs) := AllReadyH.cons (i := 16) rfl h hs
theorem tk17 {o0 o1 o2 o3 o4 o5 o6 o7 o8 o9 o10 o11 o12 o13 o14 o15 o16 o17 : Oper} {r : List Oper} {v : Value} {fuel : Nat} {listed : Array Bool} {a : Act} {w : World} (hs : Region.noSelect (List.toArray (o0 :: o1 :: o2 :: o3 :: o4 :: o5 :: o6 :: o7 :: o8 :: o9 :: o10 :: o11 :: o12 :: o13 :: o14 :: o15 :: o16 :: o17 :: r)) = true) (hf : Region.free md (List.toArray (o0 :: o1 :: o2 :: o3 :: o4 :: o5 :: o6 :: o7 :: o8 :: o9 :: o10 :: o11 :: o12 :: o13 :: o14 :: o15 :: o16 :: o17 :: r)) listed 17 = true)
    (hr : (Region.ready md (List.toArray (o0 :: o1 :: o2 :: o3 :: o4 :: o5 :: o6 :: o7 :: o8 :: o9 :: o10 :: o11 :: o12 :: o13 :: o14 :: o15 :: o16 :: o17 :: r)) listed).contains 17 = true) (hQ : ∀ c a w, Q (.panic c) (a.put o17.dst v) w → Q (.panic c) a w) (hy : YieldsIf P (List.toArray (o0 :: o1 :: o2 :: o3 :: o4 :: o5 :: o6 :: o7 :: o8 :: o9 :: o10 :: o11 :: o12 :: o13 :: o14 :: o15 :: o16 :: o17 :: r)) S o17 v a) (hS : S w)
    (h : wpAnyH P md (List.toArray (o0 :: o1 :: o2 :: o3 :: o4 :: o5 :: o6 :: o7 :: o8 :: o9 :: o10 :: o11 :: o12 :: o13 :: o14 :: o15 :: o16 :: o17 :: r)) Q S fuel (listed.setIfInBounds 17 true) (a.put o17.dst v) w) : wpAnyH P md (List.toArray (o0 :: o1 :: o2 :: o3 :: o4 :: o5 :: o6 :: o7 :: o8 :: o9 :: o10 :: o11 :: o12 :: o13 :: o14 :: o15 :: o16 :: o17 :: r)) Q S (fuel + 1) listed a w := wpAnyH_take (i := 17) rfl hs hf hr hQ hy hS h
theorem st17 {o0 o1 o2 o3 o4 o5 o6 o7 o8 o9 o10 o11 o12 o13 o14 o15 o16 o17 : Oper} {r : List Oper} {fuel : Nat} {listed : Array Bool} {a : Act} {w : World} {rs : List Nat}
    (h : ∀ K' : Act → World → Prop, Shut (∀ a w, S w → (S w → wpAnyH P md (List.toArray (o0 :: o1 :: o2 :: o3 :: o4 :: o5 :: o6 :: o7 :: o8 :: o9 :: o10 :: o11 :: o12 :: o13 :: o14 :: o15 :: o16 :: o17 :: r)) Q S fuel (listed.setIfInBounds 17 true) a w) → K' a w) → if Region.wanted o17 (yielded (List.toArray (o0 :: o1 :: o2 :: o3 :: o4 :: o5 :: o6 :: o7 :: o8 :: o9 :: o10 :: o11 :: o12 :: o13 :: o14 :: o15 :: o16 :: o17 :: r)) a.tmps) = true then Oper.wp P o17 a w K' Q else K' (a.put o17.dst undef) w)
    (hs : AllReadyH P md (List.toArray (o0 :: o1 :: o2 :: o3 :: o4 :: o5 :: o6 :: o7 :: o8 :: o9 :: o10 :: o11 :: o12 :: o13 :: o14 :: o15 :: o16 :: o17 :: r)) Q S fuel listed a w rs) : AllReadyH P md (List.toArray (o0 :: o1 :: o2 :: o3 :: o4 :: o5 :: o6 :: o7 :: o8 :: o9 :: o10 :: o11 :: o12 :: o13 :: o14 :: o15 :: o16 :: o17 :: r)) Q S fuel listed a w (17 :: rs) := AllReadyH.cons (i := 17) rfl h hs
theorem tk18 {o0 o1 o2 o3 o4 o5 o6 o7 o8 o9 o10 o11 o12 o13 o14 o15 o16 o17 o18 : Oper} {r : List Oper} {v : Value} {fuel : Nat} {listed : Array Bool} {a : Act} {w : World} (hs : Region.noSelect (List.toArray (o0 :: o1 :: o2 :: o3 :: o4 :: o5 :: o6 :: o7 :: o8 :: o9 :: o10 :: o11 :: o12 :: o13 :: o14 :: o15 :: o16 :: o17 :: o18 :: r)) = true) (hf : Region.free md (List.toArray (o0 :: o1 :: o2 :: o3 :: o4 :: o5 :: o6 :: o7 :: o8 :: o9 :: o10 :: o11 :: o12 :: o13 :: o14 :: o15 :: o16 :: o17 :: o18 :: r)) listed 18 = true)
    (hr : (Region.ready md (List.toArray (o0 :: o1 :: o2 :: o3 :: o4 :: o5 :: o6 :: o7 :: o8 :: o9 :: o10 :: o11 :: o12 :: o13 :: o14 :: o15 :: o16 :: o17 :: o18 :: r)) listed).contains 18 = true) (hQ : ∀ c a w, Q (.panic c) (a.put o18.dst v) w → Q (.panic c) a w) (hy : YieldsIf P (List.toArray (o0 :: o1 :: o2 :: o3 :: o4 :: o5 :: o6 :: o7 :: o8 :: o9 :: o10 :: o11 :: o12 :: o13 :: o14 :: o15 :: o16 :: o17 :: o18 :: r)) S o18 v a) (hS : S w)
    (h : wpAnyH P md (List.toArray (o0 :: o1 :: o2 :: o3 :: o4 :: o5 :: o6 :: o7 :: o8 :: o9 :: o10 :: o11 :: o12 :: o13 :: o14 :: o15 :: o16 :: o17 :: o18 :: r)) Q S fuel (listed.setIfInBounds 18 true) (a.put o18.dst v) w) : wpAnyH P md (List.toArray (o0 :: o1 :: o2 :: o3 :: o4 :: o5 :: o6 :: o7 :: o8 :: o9 :: o10 :: o11 :: o12 :: o13 :: o14 :: o15 :: o16 :: o17 :: o18 :: r)) Q S (fuel + 1) listed a w := wpAnyH_take (i := 18) rfl hs hf hr hQ hy hS h
theorem st18 {o0 o1 o2 o3 o4 o5 o6 o7 o8 o9 o10 o11 o12 o13 o14 o15 o16 o17 o18 : Oper} {r : List Oper} {fuel : Nat} {listed : Array Bool} {a : Act} {w : World} {rs : List Nat}
    (h : ∀ K' : Act → World → Prop, Shut (∀ a w, S w → (S w → wpAnyH P md (List.toArray (o0 :: o1 :: o2 :: o3 :: o4 :: o5 :: o6 :: o7 :: o8 :: o9 :: o10 :: o11 :: o12 :: o13 :: o14 :: o15 :: o16 :: o17 :: o18 :: r)) Q S fuel (listed.setIfInBounds 18 true) a w) → K' a w) → if Region.wanted o18 (yielded (List.toArray (o0 :: o1 :: o2 :: o3 :: o4 :: o5 :: o6 :: o7 :: o8 :: o9 :: o10 :: o11 :: o12 :: o13 :: o14 :: o15 :: o16 :: o17 :: o18 :: r)) a.tmps) = true then Oper.wp P o18 a w K' Q else K' (a.put o18.dst undef) w)
    (hs : AllReadyH P md (List.toArray (o0 :: o1 :: o2 :: o3 :: o4 :: o5 :: o6 :: o7 :: o8 :: o9 :: o10 :: o11 :: o12 :: o13 :: o14 :: o15 :: o16 :: o17 :: o18 :: r)) Q S fuel listed a w rs) : AllReadyH P md (List.toArray (o0 :: o1 :: o2 :: o3 :: o4 :: o5 :: o6 :: o7 :: o8 :: o9 :: o10 :: o11 :: o12 :: o13 :: o14 :: o15 :: o16 :: o17 :: o18 :: r)) Q S fuel listed a w (18 :: rs) := AllReadyH.cons (i := 18) rfl h hs
theorem tk19 {o0 o1 o2 o3 o4 o5 o6 o7 o8 o9 o10 o11 o12 o13 o14 o15 o16 o17 o18 o19 : Oper} {r : List Oper} {v : Value} {fuel : Nat} {listed : Array Bool} {a : Act} {w : World} (hs : Region.noSelect (List.toArray (o0 :: o1 :: o2 :: o3 :: o4 :: o5 :: o6 :: o7 :: o8 :: o9 :: o10 :: o11 :: o12 :: o13 :: o14 :: o15 :: o16 :: o17 :: o18 :: o19 :: r)) = true) (hf : Region.free md (List.toArray (o0 :: o1 :: o2 :: o3 :: o4 :: o5 :: o6 :: o7 :: o8 :: o9 :: o10 :: o11 :: o12 :: o13 :: o14 :: o15 :: o16 :: o17 :: o18 :: o19 :: r)) listed 19 = true)
    (hr : (Region.ready md (List.toArray (o0 :: o1 :: o2 :: o3 :: o4 :: o5 :: o6 :: o7 :: o8 :: o9 :: o10 :: o11 :: o12 :: o13 :: o14 :: o15 :: o16 :: o17 :: o18 :: o19 :: r)) listed).contains 19 = true) (hQ : ∀ c a w, Q (.panic c) (a.put o19.dst v) w → Q (.panic c) a w) (hy : YieldsIf P (List.toArray (o0 :: o1 :: o2 :: o3 :: o4 :: o5 :: o6 :: o7 :: o8 :: o9 :: o10 :: o11 :: o12 :: o13 :: o14 :: o15 :: o16 :: o17 :: o18 :: o19 :: r)) S o19 v a) (hS : S w)
    (h : wpAnyH P md (List.toArray (o0 :: o1 :: o2 :: o3 :: o4 :: o5 :: o6 :: o7 :: o8 :: o9 :: o10 :: o11 :: o12 :: o13 :: o14 :: o15 :: o16 :: o17 :: o18 :: o19 :: r)) Q S fuel (listed.setIfInBounds 19 true) (a.put o19.dst v) w) : wpAnyH P md (List.toArray (o0 :: o1 :: o2 :: o3 :: o4 :: o5 :: o6 :: o7 :: o8 :: o9 :: o10 :: o11 :: o12 :: o13 :: o14 :: o15 :: o16 :: o17 :: o18 :: o19 :: r)) Q S (fuel + 1) listed a w := wpAnyH_take (i := 19) rfl hs hf hr hQ hy hS h
theorem st19 {o0 o1 o2 o3 o4 o5 o6 o7 o8 o9 o10 o11 o12 o13 o14 o15 o16 o17 o18 o19 : Oper} {r : List Oper} {fuel : Nat} {listed : Array Bool} {a : Act} {w : World} {rs : List Nat}
    (h : ∀ K' : Act → World → Prop, Shut (∀ a w, S w → (S w → wpAnyH P md (List.toArray (o0 :: o1 :: o2 :: o3 :: o4 :: o5 :: o6 :: o7 :: o8 :: o9 :: o10 :: o11 :: o12 :: o13 :: o14 :: o15 :: o16 :: o17 :: o18 :: o19 :: r)) Q S fuel (listed.setIfInBounds 19 true) a w) → K' a w) → if Region.wanted o19 (yielded (List.toArray (o0 :: o1 :: o2 :: o3 :: o4 :: o5 :: o6 :: o7 :: o8 :: o9 :: o10 :: o11 :: o12 :: o13 :: o14 :: o15 :: o16 :: o17 :: o18 :: o19 :: r)) a.tmps) = true then Oper.wp P o19 a w K' Q else K' (a.put o19.dst undef) w)
    (hs : AllReadyH P md (List.toArray (o0 :: o1 :: o2 :: o3 :: o4 :: o5 :: o6 :: o7 :: o8 :: o9 :: o10 :: o11 :: o12 :: o13 :: o14 :: o15 :: o16 :: o17 :: o18 :: o19 :: r)) Q S fuel listed a w rs) : AllReadyH P md (List.toArray (o0 :: o1 :: o2 :: o3 :: o4 :: o5 :: o6 :: o7 :: o8 :: o9 :: o10 :: o11 :: o12 :: o13 :: o14 :: o15 :: o16 :: o17 :: o18 :: o19 :: r)) Q S fuel listed a w (19 :: rs) := AllReadyH.cons (i := 19) rfl h hs
theorem tk20 {o0 o1 o2 o3 o4 o5 o6 o7 o8 o9 o10 o11 o12 o13 o14 o15 o16 o17 o18 o19 o20 : Oper} {r : List Oper} {v : Value} {fuel : Nat} {listed : Array Bool} {a : Act} {w : World} (hs : Region.noSelect (List.toArray (o0 :: o1 :: o2 :: o3 :: o4 :: o5 :: o6 :: o7 :: o8 :: o9 :: o10 :: o11 :: o12 :: o13 :: o14 :: o15 :: o16 :: o17 :: o18 :: o19 :: o20 :: r)) = true) (hf : Region.free md (List.toArray (o0 :: o1 :: o2 :: o3 :: o4 :: o5 :: o6 :: o7 :: o8 :: o9 :: o10 :: o11 :: o12 :: o13 :: o14 :: o15 :: o16 :: o17 :: o18 :: o19 :: o20 :: r)) listed 20 = true)
    (hr : (Region.ready md (List.toArray (o0 :: o1 :: o2 :: o3 :: o4 :: o5 :: o6 :: o7 :: o8 :: o9 :: o10 :: o11 :: o12 :: o13 :: o14 :: o15 :: o16 :: o17 :: o18 :: o19 :: o20 :: r)) listed).contains 20 = true) (hQ : ∀ c a w, Q (.panic c) (a.put o20.dst v) w → Q (.panic c) a w) (hy : YieldsIf P (List.toArray (o0 :: o1 :: o2 :: o3 :: o4 :: o5 :: o6 :: o7 :: o8 :: o9 :: o10 :: o11 :: o12 :: o13 :: o14 :: o15 :: o16 :: o17 :: o18 :: o19 :: o20 :: r)) S o20 v a) (hS : S w)
    (h : wpAnyH P md (List.toArray (o0 :: o1 :: o2 :: o3 :: o4 :: o5 :: o6 :: o7 :: o8 :: o9 :: o10 :: o11 :: o12 :: o13 :: o14 :: o15 :: o16 :: o17 :: o18 :: o19 :: o20 :: r)) Q S fuel (listed.setIfInBounds 20 true) (a.put o20.dst v) w) : wpAnyH P md (List.toArray (o0 :: o1 :: o2 :: o3 :: o4 :: o5 :: o6 :: o7 :: o8 :: o9 :: o10 :: o11 :: o12 :: o13 :: o14 :: o15 :: o16 :: o17 :: o18 :: o19 :: o20 :: r)) Q S (fuel + 1) listed a w := wpAnyH_take (i := 20) rfl hs hf hr hQ hy hS h
theorem st20 {o0 o1 o2 o3 o4 o5 o6 o7 o8 o9 o10 o11 o12 o13 o14 o15 o16 o17 o18 o19 o20 : Oper} {r : List Oper} {fuel : Nat} {listed : Array Bool} {a : Act} {w : World} {rs : List Nat}
    (h : ∀ K' : Act → World → Prop, Shut (∀ a w, S w → (S w → wpAnyH P md (List.toArray (o0 :: o1 :: o2 :: o3 :: o4 :: o5 :: o6 :: o7 :: o8 :: o9 :: o10 :: o11 :: o12 :: o13 :: o14 :: o15 :: o16 :: o17 :: o18 :: o19 :: o20 :: r)) Q S fuel (listed.setIfInBounds 20 true) a w) → K' a w) → if Region.wanted o20 (yielded (List.toArray (o0 :: o1 :: o2 :: o3 :: o4 :: o5 :: o6 :: o7 :: o8 :: o9 :: o10 :: o11 :: o12 :: o13 :: o14 :: o15 :: o16 :: o17 :: o18 :: o19 :: o20 :: r)) a.tmps) = true then Oper.wp P o20 a w K' Q else K' (a.put o20.dst undef) w)
    (hs : AllReadyH P md (List.toArray (o0 :: o1 :: o2 :: o3 :: o4 :: o5 :: o6 :: o7 :: o8 :: o9 :: o10 :: o11 :: o12 :: o13 :: o14 :: o15 :: o16 :: o17 :: o18 :: o19 :: o20 :: r)) Q S fuel listed a w rs) : AllReadyH P md (List.toArray (o0 :: o1 :: o2 :: o3 :: o4 :: o5 :: o6 :: o7 :: o8 :: o9 :: o10 :: o11 :: o12 :: o13 :: o14 :: o15 :: o16 :: o17 :: o18 :: o19 :: o20 :: r)) Q S fuel listed a w (20 :: rs) := AllReadyH.cons (i := 20) rfl h hs
theorem tk21 {o0 o1 o2 o3 o4 o5 o6 o7 o8 o9 o10 o11 o12 o13 o14 o15 o16 o17 o18 o19 o20 o21 : Oper} {r : List Oper} {v : Value} {fuel : Nat} {listed : Array Bool} {a : Act} {w : World} (hs : Region.noSelect (List.toArray (o0 :: o1 :: o2 :: o3 :: o4 :: o5 :: o6 :: o7 :: o8 :: o9 :: o10 :: o11 :: o12 :: o13 :: o14 :: o15 :: o16 :: o17 :: o18 :: o19 :: o20 :: o21 :: r)) = true) (hf : Region.free md (List.toArray (o0 :: o1 :: o2 :: o3 :: o4 :: o5 :: o6 :: o7 :: o8 :: o9 :: o10 :: o11 :: o12 :: o13 :: o14 :: o15 :: o16 :: o17 :: o18 :: o19 :: o20 :: o21 :: r)) listed 21 = true)
    (hr : (Region.ready md (List.toArray (o0 :: o1 :: o2 :: o3 :: o4 :: o5 :: o6 :: o7 :: o8 :: o9 :: o10 :: o11 :: o12 :: o13 :: o14 :: o15 :: o16 :: o17 :: o18 :: o19 :: o20 :: o21 :: r)) listed).contains 21 = true) (hQ : ∀ c a w, Q (.panic c) (a.put o21.dst v) w → Q (.panic c) a w) (hy : YieldsIf P (List.toArray (o0 :: o1 :: o2 :: o3 :: o4 :: o5 :: o6 :: o7 :: o8 :: o9 :: o10 :: o11 :: o12 :: o13 :: o14 :: o15 :: o16 :: o17 :: o18 :: o19 :: o20 :: o21 :: r)) S o21 v a) (hS : S w)
    (h : wpAnyH P md (List.toArray (o0 :: o1 :: o2 :: o3 :: o4 :: o5 :: o6 :: o7 :: o8 :: o9 :: o10 :: o11 :: o12 :: o13 :: o14 :: o15 :: o16 :: o17 :: o18 :: o19 :: o20 :: o21 :: r)) Q S fuel (listed.setIfInBounds 21 true) (a.put o21.dst v) w) : wpAnyH P md (List.toArray (o0 :: o1 :: o2 :: o3 :: o4 :: o5 :: o6 :: o7 :: o8 :: o9 :: o10 :: o11 :: o12 :: o13 :: o14 :: o15 :: o16 :: o17 :: o18 :: o19 :: o20 :: o21 :: r)) Q S (fuel + 1) listed a w := wpAnyH_take (i := 21) rfl hs hf hr hQ hy hS h
theorem st21 {o0 o1 o2 o3 o4 o5 o6 o7 o8 o9 o10 o11 o12 o13 o14 o15 o16 o17 o18 o19 o20 o21 : Oper} {r : List Oper} {fuel : Nat} {listed : Array Bool} {a : Act} {w : World} {rs : List Nat}
    (h : ∀ K' : Act → World → Prop, Shut (∀ a w, S w → (S w → wpAnyH P md (List.toArray (o0 :: o1 :: o2 :: o3 :: o4 :: o5 :: o6 :: o7 :: o8 :: o9 :: o10 :: o11 :: o12 :: o13 :: o14 :: o15 :: o16 :: o17 :: o18 :: o19 :: o20 :: o21 :: r)) Q S fuel (listed.setIfInBounds 21 true) a w) → K' a w) → if Region.wanted o21 (yielded (List.toArray (o0 :: o1 :: o2 :: o3 :: o4 :: o5 :: o6 :: o7 :: o8 :: o9 :: o10 :: o11 :: o12 :: o13 :: o14 :: o15 :: o16 :: o17 :: o18 :: o19 :: o20 :: o21 :: r)) a.tmps) = true then Oper.wp P o21 a w K' Q else K' (a.put o21.dst undef) w)
    (hs : AllReadyH P md (List.toArray (o0 :: o1 :: o2 :: o3 :: o4 :: o5 :: o6 :: o7 :: o8 :: o9 :: o10 :: o11 :: o12 :: o13 :: o14 :: o15 :: o16 :: o17 :: o18 :: o19 :: o20 :: o21 :: r)) Q S fuel listed a w rs) : AllReadyH P md (List.toArray (o0 :: o1 :: o2 :: o3 :: o4 :: o5 :: o6 :: o7 :: o8 :: o9 :: o10 :: o11 :: o12 :: o13 :: o14 :: o15 :: o16 :: o17 :: o18 :: o19 :: o20 :: o21 :: r)) Q S fuel listed a w (21 :: rs) := AllReadyH.cons (i := 21) rfl h hs
theorem tk22 {o0 o1 o2 o3 o4 o5 o6 o7 o8 o9 o10 o11 o12 o13 o14 o15 o16 o17 o18 o19 o20 o21 o22 : Oper} {r : List Oper} {v : Value} {fuel : Nat} {listed : Array Bool} {a : Act} {w : World} (hs : Region.noSelect (List.toArray (o0 :: o1 :: o2 :: o3 :: o4 :: o5 :: o6 :: o7 :: o8 :: o9 :: o10 :: o11 :: o12 :: o13 :: o14 :: o15 :: o16 :: o17 :: o18 :: o19 :: o20 :: o21 :: o22 :: r)) = true) (hf : Region.free md (List.toArray (o0 :: o1 :: o2 :: o3 :: o4 :: o5 :: o6 :: o7 :: o8 :: o9 :: o10 :: o11 :: o12 :: o13 :: o14 :: o15 :: o16 :: o17 :: o18 :: o19 :: o20 :: o21 :: o22 :: r)) listed 22 = true)
    (hr : (Region.ready md (List.toArray (o0 :: o1 :: o2 :: o3 :: o4 :: o5 :: o6 :: o7 :: o8 :: o9 :: o10 :: o11 :: o12 :: o13 :: o14 :: o15 :: o16 :: o17 :: o18 :: o19 :: o20 :: o21 :: o22 :: r)) listed).contains 22 = true) (hQ : ∀ c a w, Q (.panic c) (a.put o22.dst v) w → Q (.panic c) a w) (hy : YieldsIf P (List.toArray (o0 :: o1 :: o2 :: o3 :: o4 :: o5 :: o6 :: o7 :: o8 :: o9 :: o10 :: o11 :: o12 :: o13 :: o14 :: o15 :: o16 :: o17 :: o18 :: o19 :: o20 :: o21 :: o22 :: r)) S o22 v a) (hS : S w)
    (h : wpAnyH P md (List.toArray (o0 :: o1 :: o2 :: o3 :: o4 :: o5 :: o6 :: o7 :: o8 :: o9 :: o10 :: o11 :: o12 :: o13 :: o14 :: o15 :: o16 :: o17 :: o18 :: o19 :: o20 :: o21 :: o22 :: r)) Q S fuel (listed.setIfInBounds 22 true) (a.put o22.dst v) w) : wpAnyH P md (List.toArray (o0 :: o1 :: o2 :: o3 :: o4 :: o5 :: o6 :: o7 :: o8 :: o9 :: o10 :: o11 :: o12 :: o13 :: o14 :: o15 :: o16 :: o17 :: o18 :: o19 :: o20 :: o21 :: o22 :: r)) Q S (fuel + 1) listed a w := wpAnyH_take (i := 22) rfl hs hf hr hQ hy hS h
theorem st22 {o0 o1 o2 o3 o4 o5 o6 o7 o8 o9 o10 o11 o12 o13 o14 o15 o16 o17 o18 o19 o20 o21 o22 : Oper} {r : List Oper} {fuel : Nat} {listed : Array Bool} {a : Act} {w : World} {rs : List Nat}
    (h : ∀ K' : Act → World → Prop, Shut (∀ a w, S w → (S w → wpAnyH P md (List.toArray (o0 :: o1 :: o2 :: o3 :: o4 :: o5 :: o6 :: o7 :: o8 :: o9 :: o10 :: o11 :: o12 :: o13 :: o14 :: o15 :: o16 :: o17 :: o18 :: o19 :: o20 :: o21 :: o22 :: r)) Q S fuel (listed.setIfInBounds 22 true) a w) → K' a w) → if Region.wanted o22 (yielded (List.toArray (o0 :: o1 :: o2 :: o3 :: o4 :: o5 :: o6 :: o7 :: o8 :: o9 :: o10 :: o11 :: o12 :: o13 :: o14 :: o15 :: o16 :: o17 :: o18 :: o19 :: o20 :: o21 :: o22 :: r)) a.tmps) = true then Oper.wp P o22 a w K' Q else K' (a.put o22.dst undef) w)
    (hs : AllReadyH P md (List.toArray (o0 :: o1 :: o2 :: o3 :: o4 :: o5 :: o6 :: o7 :: o8 :: o9 :: o10 :: o11 :: o12 :: o13 :: o14 :: o15 :: o16 :: o17 :: o18 :: o19 :: o20 :: o21 :: o22 :: r)) Q S fuel listed a w rs) : AllReadyH P md (List.toArray (o0 :: o1 :: o2 :: o3 :: o4 :: o5 :: o6 :: o7 :: o8 :: o9 :: o10 :: o11 :: o12 :: o13 :: o14 :: o15 :: o16 :: o17 :: o18 :: o19 :: o20 :: o21 :: o22 :: r)) Q S fuel listed a w (22 :: rs) := AllReadyH.cons (i := 22) rfl h hs
theorem tk23 {o0 o1 o2 o3 o4 o5 o6 o7 o8 o9 o10 o11 o12 o13 o14 o15 o16 o17 o18 o19 o20 o21 o22 o23 : Oper} {r : List Oper} {v : Value} {fuel : Nat} {listed : Array Bool} {a : Act} {w : World} (hs : Region.noSelect (List.toArray (o0 :: o1 :: o2 :: o3 :: o4 :: o5 :: o6 :: o7 :: o8 :: o9 :: o10 :: o11 :: o12 :: o13 :: o14 :: o15 :: o16 :: o17 :: o18 :: o19 :: o20 :: o21 :: o22 :: o23 :: r)) = true) (hf : Region.free md (List.toArray (o0 :: o1 :: o2 :: o3 :: o4 :: o5 :: o6 :: o7 :: o8 :: o9 :: o10 :: o11 :: o12 :: o13 :: o14 :: o15 :: o16 :: o17 :: o18 :: o19 :: o20 :: o21 :: o22 :: o23 :: r)) listed 23 = true)
    (hr : (Region.ready md (List.toArray (o0 :: o1 :: o2 :: o3 :: o4 :: o5 :: o6 :: o7 :: o8 :: o9 :: o10 :: o11 :: o12 :: o13 :: o14 :: o15 :: o16 :: o17 :: o18 :: o19 :: o20 :: o21 :: o22 :: o23 :: r)) listed).contains 23 = true) (hQ : ∀ c a w, Q (.panic c) (a.put o23.dst v) w → Q (.panic c) a w) (hy : YieldsIf P (List.toArray (o0 :: o1 :: o2 :: o3 :: o4 :: o5 :: o6 :: o7 :: o8 :: o9 :: o10 :: o11 :: o12 :: o13 :: o14 :: o15 :: o16 :: o17 :: o18 :: o19 :: o20 :: o21 :: o22 :: o23 :: r)) S o23 v a) (hS : S w)
    (h : wpAnyH P md (List.toArray (o0 :: o1 :: o2 :: o3 :: o4 :: o5 :: o6 :: o7 :: o8 :: o9 :: o10 :: o11 :: o12 :: o13 :: o14 :: o15 :: o16 :: o17 :: o18 :: o19 :: o20 :: o21 :: o22 :: o23 :: r)) Q S fuel (listed.setIfInBounds 23 true) (a.put o23.dst v) w) : wpAnyH P md (List.toArray (o0 :: o1 :: o2 :: o3 :: o4 :: o5 :: o6 :: o7 :: o8 :: o9 :: o10 :: o11 :: o12 :: o13 :: o14 :: o15 :: o16 :: o17 :: o18 :: o19 :: o20 :: o21 :: o22 :: o23 :: r)) Q S (fuel + 1) listed a w := wpAnyH_take (i := 23) rfl hs hf hr hQ hy hS h
theorem st23 {o0 o1 o2 o3 o4 o5 o6 o7 o8 o9 o10 o11 o12 o13 o14 o15 o16 o17 o18 o19 o20 o21 o22 o23 : Oper} {r : List Oper} {fuel : Nat} {listed : Array Bool} {a : Act} {w : World} {rs : List Nat}
    (h : ∀ K' : Act → World → Prop, Shut (∀ a w, S w → (S w → wpAnyH P md (List.toArray (o0 :: o1 :: o2 :: o3 :: o4 :: o5 :: o6 :: o7 :: o8 :: o9 :: o10 :: o11 :: o12 :: o13 :: o14 :: o15 :: o16 :: o17 :: o18 :: o19 :: o20 :: o21 :: o22 :: o23 :: r)) Q S fuel (listed.setIfInBounds 23 true) a w) → K' a w) → if Region.wanted o23 (yielded (List.toArray (o0 :: o1 :: o2 :: o3 :: o4 :: o5 :: o6 :: o7 :: o8 :: o9 :: o10 :: o11 :: o12 :: o13 :: o14 :: o15 :: o16 :: o17 :: o18 :: o19 :: o20 :: o21 :: o22 :: o23 :: r)) a.tmps) = true then Oper.wp P o23 a w K' Q else K' (a.put o23.dst undef) w)
    (hs : AllReadyH P md (List.toArray (o0 :: o1 :: o2 :: o3 :: o4 :: o5 :: o6 :: o7 :: o8 :: o9 :: o10 :: o11 :: o12 :: o13 :: o14 :: o15 :: o16 :: o17 :: o18 :: o19 :: o20 :: o21 :: o22 :: o23 :: r)) Q S fuel listed a w rs) : AllReadyH P md (List.toArray (o0 :: o1 :: o2 :: o3 :: o4 :: o5 :: o6 :: o7 :: o8 :: o9 :: o10 :: o11 :: o12 :: o13 :: o14 :: o15 :: o16 :: o17 :: o18 :: o19 :: o20 :: o21 :: o22 :: o23 :: r)) Q S fuel listed a w (23 :: rs) := AllReadyH.cons (i := 23) rfl h hs
theorem tk24 {o0 o1 o2 o3 o4 o5 o6 o7 o8 o9 o10 o11 o12 o13 o14 o15 o16 o17 o18 o19 o20 o21 o22 o23 o24 : Oper} {r : List Oper} {v : Value} {fuel : Nat} {listed : Array Bool} {a : Act} {w : World} (hs : Region.noSelect (List.toArray (o0 :: o1 :: o2 :: o3 :: o4 :: o5 :: o6 :: o7 :: o8 :: o9 :: o10 :: o11 :: o12 :: o13 :: o14 :: o15 :: o16 :: o17 :: o18 :: o19 :: o20 :: o21 :: o22 :: o23 :: o24 :: r)) = true) (hf : Region.free md (List.toArray (o0 :: o1 :: o2 :: o3 :: o4 :: o5 :: o6 :: o7 :: o8 :: o9 :: o10 :: o11 :: o12 :: o13 :: o14 :: o15 :: o16 :: o17 :: o18 :: o19 :: o20 :: o21 :: o22 :: o23 :: o24 :: r)) listed 24 = true)
    (hr : (Region.ready md (List.toArray (o0 :: o1 :: o2 :: o3 :: o4 :: o5 :: o6 :: o7 :: o8 :: o9 :: o10 :: o11 :: o12 :: o13 :: o14 :: o15 :: o16 :: o17 :: o18 :: o19 :: o20 :: o21 :: o22 :: o23 :: o24 :: r)) listed).contains 24 = true) (hQ : ∀ c a w, Q (.panic c) (a.put o24.dst v) w → Q (.panic c) a w) (hy : YieldsIf P (List.toArray (o0 :: o1 :: o2 :: o3 :: o4 :: o5 :: o6 :: o7 :: o8 :: o9 :: o10 :: o11 :: o12 :: o13 :: o14 :: o15 :: o16 :: o17 :: o18 :: o19 :: o20 :: o21 :: o22 :: o23 :: o24 :: r)) S o24 v a) (hS : S w)
    (h : wpAnyH P md (List.toArray (o0 :: o1 :: o2 :: o3 :: o4 :: o5 :: o6 :: o7 :: o8 :: o9 :: o10 :: o11 :: o12 :: o13 :: o14 :: o15 :: o16 :: o17 :: o18 :: o19 :: o20 :: o21 :: o22 :: o23 :: o24 :: r)) Q S fuel (listed.setIfInBounds 24 true) (a.put o24.dst v) w) : wpAnyH P md (List.toArray (o0 :: o1 :: o2 :: o3 :: o4 :: o5 :: o6 :: o7 :: o8 :: o9 :: o10 :: o11 :: o12 :: o13 :: o14 :: o15 :: o16 :: o17 :: o18 :: o19 :: o20 :: o21 :: o22 :: o23 :: o24 :: r)) Q S (fuel + 1) listed a w := wpAnyH_take (i := 24) rfl hs hf hr hQ hy hS h
theorem st24 {o0 o1 o2 o3 o4 o5 o6 o7 o8 o9 o10 o11 o12 o13 o14 o15 o16 o17 o18 o19 o20 o21 o22 o23 o24 : Oper} {r : List Oper} {fuel : Nat} {listed : Array Bool} {a : Act} {w : World} {rs : List Nat}
    (h : ∀ K' : Act → World → Prop, Shut (∀ a w, S w → (S w → wpAnyH P md (List.toArray (o0 :: o1 :: o2 :: o3 :: o4 :: o5 :: o6 :: o7 :: o8 :: o9 :: o10 :: o11 :: o12 :: o13 :: o14 :: o15 :: o16 :: o17 :: o18 :: o19 :: o20 :: o21 :: o22 :: o23 :: o24 :: r)) Q S fuel (listed.setIfInBounds 24 true) a w) → K' a w) → if Region.wanted o24 (yielded (List.toArray (o0 :: o1 :: o2 :: o3 :: o4 :: o5 :: o6 :: o7 :: o8 :: o9 :: o10 :: o11 :: o12 :: o13 :: o14 :: o15 :: o16 :: o17 :: o18 :: o19 :: o20 :: o21 :: o22 :: o23 :: o24 :: r)) a.tmps) = true then Oper.wp P o24 a w K' Q else K' (a.put o24.dst undef) w)
    (hs : AllReadyH P md (List.toArray (o0 :: o1 :: o2 :: o3 :: o4 :: o5 :: o6 :: o7 :: o8 :: o9 :: o10 :: o11 :: o12 :: o13 :: o14 :: o15 :: o16 :: o17 :: o18 :: o19 :: o20 :: o21 :: o22 :: o23 :: o24 :: r)) Q S fuel listed a w rs) : AllReadyH P md (List.toArray (o0 :: o1 :: o2 :: o3 :: o4 :: o5 :: o6 :: o7 :: o8 :: o9 :: o10 :: o11 :: o12 :: o13 :: o14 :: o15 :: o16 :: o17 :: o18 :: o19 :: o20 :: o21 :: o22 :: o23 :: o24 :: r)) Q S fuel listed a w (24 :: rs) := AllReadyH.cons (i := 24) rfl h hs
theorem tk25 {o0 o1 o2 o3 o4 o5 o6 o7 o8 o9 o10 o11 o12 o13 o14 o15 o16 o17 o18 o19 o20 o21 o22 o23 o24 o25 : Oper} {r : List Oper} {v : Value} {fuel : Nat} {listed : Array Bool} {a : Act} {w : World} (hs : Region.noSelect (List.toArray (o0 :: o1 :: o2 :: o3 :: o4 :: o5 :: o6 :: o7 :: o8 :: o9 :: o10 :: o11 :: o12 :: o13 :: o14 :: o15 :: o16 :: o17 :: o18 :: o19 :: o20 :: o21 :: o22 :: o23 :: o24 :: o25 :: r)) = true) (hf : Region.free md (List.toArray (o0 :: o1 :: o2 :: o3 :: o4 :: o5 :: o6 :: o7 :: o8 :: o9 :: o10 :: o11 :: o12 :: o13 :: o14 :: o15 :: o16 :: o17 :: o18 :: o19 :: o20 :: o21 :: o22 :: o23 :: o24 :: o25 :: r)) listed 25 = true)
    (hr : (Region.ready md (List.toArray (o0 :: o1 :: o2 :: o3 :: o4 :: o5 :: o6 :: o7 :: o8 :: o9 :: o10 :: o11 :: o12 :: o13 :: o14 :: o15 :: o16 :: o17 :: o18 :: o19 :: o20 :: o21 :: o22 :: o23 :: o24 :: o25 :: r)) listed).contains 25 = true) (hQ : ∀ c a w, Q (.panic c) (a.put o25.dst v) w → Q (.panic c) a w) (hy : YieldsIf P (List.toArray (o0 :: o1 :: o2 :: o3 :: o4 :: o5 :: o6 :: o7 :: o8 :: o9 :: o10 :: o11 :: o12 :: o13 :: o14 :: o15 :: o16 :: o17 :: o18 :: o19 :: o20 :: o21 :: o22 :: o23 :: o24 :: o25 :: r)) S o25 v a) (hS : S w)
    (h : wpAnyH P md (List.toArray (o0 :: o1 :: o2 :: o3 :: o4 :: o5 :: o6 :: o7 :: o8 :: o9 :: o10 :: o11 :: o12 :: o13 :: o14 :: o15 :: o16 :: o17 :: o18 :: o19 :: o20 :: o21 :: o22 :: o23 :: o24 :: o25 :: r)) Q S fuel (listed.setIfInBounds 25 true) (a.put o25.dst v) w) : wpAnyH P md (List.toArray (o0 :: o1 :: o2 :: o3 :: o4 :: o5 :: o6 :: o7 :: o8 :: o9 :: o10 :: o11 :: o12 :: o13 :: o14 :: o15 :: o16 :: o17 :: o18 :: o19 :: o20 :: o21 :: o22 :: o23 :: o24 :: o25 :: r)) Q S (fuel + 1) listed a w := wpAnyH_take (i := 25) rfl hs hf hr hQ hy hS h
theorem st25 {o0 o1 o2 o3 o4 o5 o6 o7 o8 o9 o10 o11 o12 o13 o14 o15 o16 o17 o18 o19 o20 o21 o22 o23 o24 o25 : Oper} {r : List Oper} {fuel : Nat} {listed : Array Bool} {a : Act} {w : World} {rs : List Nat}
    (h : ∀ K' : Act → World → Prop, Shut (∀ a w, S w → (S w → wpAnyH P md (List.toArray (o0 :: o1 :: o2 :: o3 :: o4 :: o5 :: o6 :: o7 :: o8 :: o9 :: o10 :: o11 :: o12 :: o13 :: o14 :: o15 :: o16 :: o17 :: o18 :: o19 :: o20 :: o21 :: o22 :: o23 :: o24 :: o25 :: r)) Q S fuel (listed.setIfInBounds 25 true) a w) → K' a w) → if Region.wanted o25 (yielded (List.toArray (o0 :: o1 :: o2 :: o3 :: o4 :: o5 :: o6 :: o7 :: o8 :: o9 :: o10 :: o11 :: o12 :: o13 :: o14 :: o15 :: o16 :: o17 :: o18 :: o19 :: o20 :: o21 :: o22 :: o23 :: o24 :: o25 :: r)) a.tmps) = true then Oper.wp P o25 a w K' Q else K' (a.put o25.dst undef) w)
    (hs : AllReadyH P md (List.toArray (o0 :: o1 :: o2 :: o3 :: o4 :: o5 :: o6 :: o7 :: o8 :: o9 :: o10 :: o11 :: o12 :: o13 :: o14 :: o15 :: o16 :: o17 :: o18 :: o19 :: o20 :: o21 :: o22 :: o23 :: o24 :: o25 :: r)) Q S fuel listed a w rs) : AllReadyH P md (List.toArray (o0 :: o1 :: o2 :: o3 :: o4 :: o5 :: o6 :: o7 :: o8 :: o9 :: o10 :: o11 :: o12 :: o13 :: o14 :: o15 :: o16 :: o17 :: o18 :: o19 :: o20 :: o21 :: o22 :: o23 :: o24 :: o25 :: r)) Q S fuel listed a w (25 :: rs) := AllReadyH.cons (i := 25) rfl h hs
theorem tk26 {o0 o1 o2 o3 o4 o5 o6 o7 o8 o9 o10 o11 o12 o13 o14 o15 o16 o17 o18 o19 o20 o21 o22 o23 o24 o25 o26 : Oper} {r : List Oper} {v : Value} {fuel : Nat} {listed : Array Bool} {a : Act} {w : World} (hs : Region.noSelect (List.toArray (o0 :: o1 :: o2 :: o3 :: o4 :: o5 :: o6 :: o7 :: o8 :: o9 :: o10 :: o11 :: o12 :: o13 :: o14 :: o15 :: o16 :: o17 :: o18 :: o19 :: o20 :: o21 :: o22 :: o23 :: o24 :: o25 :: o26 :: r)) = true) (hf : Region.free md (List.toArray (o0 :: o1 :: o2 :: o3 :: o4 :: o5 :: o6 :: o7 :: o8 :: o9 :: o10 :: o11 :: o12 :: o13 :: o14 :: o15 :: o16 :: o17 :: o18 :: o19 :: o20 :: o21 :: o22 :: o23 :: o24 :: o25 :: o26 :: r)) listed 26 = true)
    (hr : (Region.ready md (List.toArray (o0 :: o1 :: o2 :: o3 :: o4 :: o5 :: o6 :: o7 :: o8 :: o9 :: o10 :: o11 :: o12 :: o13 :: o14 :: o15 :: o16 :: o17 :: o18 :: o19 :: o20 :: o21 :: o22 :: o23 :: o24 :: o25 :: o26 :: r)) listed).contains 26 = true) (hQ : ∀ c a w, Q (.panic c) (a.put o26.dst v) w → Q (.panic c) a w) (hy : YieldsIf P (List.toArray (o0 :: o1 :: o2 :: o3 :: o4 :: o5 :: o6 :: o7 :: o8 :: o9 :: o10 :: o11 :: o12 :: o13 :: o14 :: o15 :: o16 :: o17 :: o18 :: o19 :: o20 :: o21 :: o22 :: o23 :: o24 :: o25 :: o26 :: r)) S o26 v a) (hS : S w)
    (h : wpAnyH P md (List.toArray (o0 :: o1 :: o2 :: o3 :: o4 :: o5 :: o6 :: o7 :: o8 :: o9 :: o10 :: o11 :: o12 :: o13 :: o14 :: o15 :: o16 :: o17 :: o18 :: o19 :: o20 :: o21 :: o22 :: o23 :: o24 :: o25 :: o26 :: r)) Q S fuel (listed.setIfInBounds 26 true) (a.put o26.dst v) w) : wpAnyH P md (List.toArray (o0 :: o1 :: o2 :: o3 :: o4 :: o5 :: o6 :: o7 :: o8 :: o9 :: o10 :: o11 :: o12 :: o13 :: o14 :: o15 :: o16 :: o17 :: o18 :: o19 :: o20 :: o21 :: o22 :: o23 :: o24 :: o25 :: o26 :: r)) Q S (fuel + 1) listed a w := wpAnyH_take (i := 26) rfl hs hf hr hQ hy hS h
theorem st26 {o0 o1 o2 o3 o4 o5 o6 o7 o8 o9 o10 o11 o12 o13 o14 o15 o16 o17 o18 o19 o20 o21 o22 o23 o24 o25 o26 : Oper} {r : List Oper} {fuel : Nat} {listed : Array Bool} {a : Act} {w : World} {rs : List Nat}
    (h : ∀ K' : Act → World → Prop, Shut (∀ a w, S w → (S w → wpAnyH P md (List.toArray (o0 :: o1 :: o2 :: o3 :: o4 :: o5 :: o6 :: o7 :: o8 :: o9 :: o10 :: o11 :: o12 :: o13 :: o14 :: o15 :: o16 :: o17 :: o18 :: o19 :: o20 :: o21 :: o22 :: o23 :: o24 :: o25 :: o26 :: r)) Q S fuel (listed.setIfInBounds 26 true) a w) → K' a w) → if Region.wanted o26 (yielded (List.toArray (o0 :: o1 :: o2 :: o3 :: o4 :: o5 :: o6 :: o7 :: o8 :: o9 :: o10 :: o11 :: o12 :: o13 :: o14 :: o15 :: o16 :: o17 :: o18 :: o19 :: o20 :: o21 :: o22 :: o23 :: o24 :: o25 :: o26 :: r)) a.tmps) = true then Oper.wp P o26 a w K' Q else K' (a.put o26.dst undef) w)
    (hs : AllReadyH P md (List.toArray (o0 :: o1 :: o2 :: o3 :: o4 :: o5 :: o6 :: o7 :: o8 :: o9 :: o10 :: o11 :: o12 :: o13 :: o14 :: o15 :: o16 :: o17 :: o18 :: o19 :: o20 :: o21 :: o22 :: o23 :: o24 :: o25 :: o26 :: r)) Q S fuel listed a w rs) : AllReadyH P md (List.toArray (o0 :: o1 :: o2 :: o3 :: o4 :: o5 :: o6 :: o7 :: o8 :: o9 :: o10 :: o11 :: o12 :: o13 :: o14 :: o15 :: o16 :: o17 :: o18 :: o19 :: o20 :: o21 :: o22 :: o23 :: o24 :: o25 :: o26 :: r)) Q S fuel listed a w (26 :: rs) := AllReadyH.cons (i := 26) rfl h hs
theorem tk27 {o0 o1 o2 o3 o4 o5 o6 o7 o8 o9 o10 o11 o12 o13 o14 o15 o16 o17 o18 o19 o20 o21 o22 o23 o24 o25 o26 o27 : Oper} {r : List Oper} {v : Value} {fuel : Nat} {listed : Array Bool} {a : Act} {w : World} (hs : Region.noSelect (List.toArray (o0 :: o1 :: o2 :: o3 :: o4 :: o5 :: o6 :: o7 :: o8 :: o9 :: o10 :: o11 :: o12 :: o13 :: o14 :: o15 :: o16 :: o17 :: o18 :: o19 :: o20 :: o21 :: o22 :: o23 :: o24 :: o25 :: o26 :: o27 :: r)) = true) (hf : Region.free md (List.toArray (o0 :: o1 :: o2 :: o3 :: o4 :: o5 :: o6 :: o7 :: o8 :: o9 :: o10 :: o11 :: o12 :: o13 :: o14 :: o15 :: o16 :: o17 :: o18 :: o19 :: o20 :: o21 :: o22 :: o23 :: o24 :: o25 :: o26 :: o27 :: r)) listed 27 = true)
    (hr : (Region.ready md (List.toArray (o0 :: o1 :: o2 :: o3 :: o4 :: o5 :: o6 :: o7 :: o8 :: o9 :: o10 :: o11 :: o12 :: o13 :: o14 :: o15 :: o16 :: o17 :: o18 :: o19 :: o20 :: o21 :: o22 :: o23 :: o24 :: o25 :: o26 :: o27 :: r)) listed).contains 27 = true) (hQ : ∀ c a w, Q (.panic c) (a.put o27.dst v) w → Q (.panic c) a w) (hy : YieldsIf P (List.toArray (o0 :: o1 :: o2 :: o3 :: o4 :: o5 :: o6 :: o7 :: o8 :: o9 :: o10 :: o11 :: o12 :: o13 :: o14 :: o15 :: o16 :: o17 :: o18 :: o19 :: o20 :: o21 :: o22 :: o23 :: o24 :: o25 :: o26 :: o27 :: r)) S o27 v a) (hS : S w)
    (h : wpAnyH P md (List.toArray (o0 :: o1 :: o2 :: o3 :: o4 :: o5 :: o6 :: o7 :: o8 :: o9 :: o10 :: o11 :: o12 :: o13 :: o14 :: o15 :: o16 :: o17 :: o18 :: o19 :: o20 :: o21 :: o22 :: o23 :: o24 :: o25 :: o26 :: o27 :: r)) Q S fuel (listed.setIfInBounds 27 true) (a.put o27.dst v) w) : wpAnyH P md (List.toArray (o0 :: o1 :: o2 :: o3 :: o4 :: o5 :: o6 :: o7 :: o8 :: o9 :: o10 :: o11 :: o12 :: o13 :: o14 :: o15 :: o16 :: o17 :: o18 :: o19 :: o20 :: o21 :: o22 :: o23 :: o24 :: o25 :: o26 :: o27 :: r)) Q S (fuel + 1) listed a w := wpAnyH_take (i := 27) rfl hs hf hr hQ hy hS h
theorem st27 {o0 o1 o2 o3 o4 o5 o6 o7 o8 o9 o10 o11 o12 o13 o14 o15 o16 o17 o18 o19 o20 o21 o22 o23 o24 o25 o26 o27 : Oper} {r : List Oper} {fuel : Nat} {listed : Array Bool} {a : Act} {w : World} {rs : List Nat}
    (h : ∀ K' : Act → World → Prop, Shut (∀ a w, S w → (S w → wpAnyH P md (List.toArray (o0 :: o1 :: o2 :: o3 :: o4 :: o5 :: o6 :: o7 :: o8 :: o9 :: o10 :: o11 :: o12 :: o13 :: o14 :: o15 :: o16 :: o17 :: o18 :: o19 :: o20 :: o21 :: o22 :: o23 :: o24 :: o25 :: o26 :: o27 :: r)) Q S fuel (listed.setIfInBounds 27 true) a w) → K' a w) → if Region.wanted o27 (yielded (List.toArray (o0 :: o1 :: o2 :: o3 :: o4 :: o5 :: o6 :: o7 :: o8 :: o9 :: o10 :: o11 :: o12 :: o13 :: o14 :: o15 :: o16 :: o17 :: o18 :: o19 :: o20 :: o21 :: o22 :: o23 :: o24 :: o25 :: o26 :: o27 :: r)) a.tmps) = true then Oper.wp P o27 a w K' Q else K' (a.put o27.dst undef) w)
    (hs : AllReadyH P md (List.toArray (o0 :: o1 :: o2 :: o3 :: o4 :: o5 :: o6 :: o7 :: o8 :: o9 :: o10 :: o11 :: o12 :: o13 :: o14 :: o15 :: o16 :: o17 :: o18 :: o19 :: o20 :: o21 :: o22 :: o23 :: o24 :: o25 :: o26 :: o27 :: r)) Q S fuel listed a w rs) : AllReadyH P md (List.toArray (o0 :: o1 :: o2 :: o3 :: o4 :: o5 :: o6 :: o7 :: o8 :: o9 :: o10 :: o11 :: o12 :: o13 :: o14 :: o15 :: o16 :: o17 :: o18 :: o19 :: o20 :: o21 :: o22 :: o23 :: o24 :: o25 :: o26 :: o27 :: r)) Q S fuel listed a w (27 :: rs) := AllReadyH.cons (i := 27) rfl h hs
theorem tk28 {o0 o1 o2 o3 o4 o5 o6 o7 o8 o9 o10 o11 o12 o13 o14 o15 o16 o17 o18 o19 o20 o21 o22 o23 o24 o25 o26 o27 o28 : Oper} {r : List Oper} {v : Value} {fuel : Nat} {listed : Array Bool} {a : Act} {w : World} (hs : Region.noSelect (List.toArray (o0 :: o1 :: o2 :: o3 :: o4 :: o5 :: o6 :: o7 :: o8 :: o9 :: o10 :: o11 :: o12 :: o13 :: o14 :: o15 :: o16 :: o17 :: o18 :: o19 :: o20 :: o21 :: o22 :: o23 :: o24 :: o25 :: o26 :: o27 :: o28 :: r)) = true) (hf : Region.free md (List.toArray (o0 :: o1 :: o2 :: o3 :: o4 :: o5 :: o6 :: o7 :: o8 :: o9 :: o10 :: o11 :: o12 :: o13 :: o14 :: o15 :: o16 :: o17 :: o18 :: o19 :: o20 :: o21 :: o22 :: o23 :: o24 :: o25 :: o26 :: o27 :: o28 :: r)) listed 28 = true)
    (hr : (Region.ready md (List.toArray (o0 :: o1 :: o2 :: o3 :: o4 :: o5 :: o6 :: o7 :: o8 :: o9 :: o10 :: o11 :: o12 :: o13 :: o14 :: o15 :: o16 :: o17 :: o18 :: o19 :: o20 :: o21 :: o22 :: o23 :: o24 :: o25 :: o26 :: o27 :: o28 :: r)) listed).contains 28 = true) (hQ : ∀ c a w, Q (.panic c) (a.put o28.dst v) w → Q (.panic c) a w) (hy : YieldsIf P (List.toArray (o0 :: o1 :: o2 :: o3 :: o4 :: o5 :: o6 :: o7 :: o8 :: o9 :: o10 :: o11 :: o12 :: o13 :: o14 :: o15 :: o16 :: o17 :: o18 :: o19 :: o20 :: o21 :: o22 :: o23 :: o24 :: o25 :: o26 :: o27 :: o28 :: r)) S o28 v a) (hS : S w)
    (h : wpAnyH P md (List.toArray (o0 :: o1 :: o2 :: o3 :: o4 :: o5 :: o6 :: o7 :: o8 :: o9 :: o10 :: o11 :: o12 :: o13 :: o14 :: o15 :: o16 :: o17 :: o18 :: o19 :: o20 :: o21 :: o22 :: o23 :: o24 :: o25 :: o26 :: o27 :: o28 :: r)) Q S fuel (listed.setIfInBounds 28 true) (a.put o28.dst v) w) : wpAnyH P md (List.toArray (o0 :: o1 :: o2 :: o3 :: o4 :: o5 :: o6 :: o7 :: o8 :: o9 :: o10 :: o11 :: o12 :: o13 :: o14 :: o15 :: o16 :: o17 :: o18 :: o19 :: o20 :: o21 :: o22 :: o23 :: o24 :: o25 :: o26 :: o27 :: o28 :: r)) Q S (fuel + 1) listed a w := wpAnyH_take (i := 28) rfl hs hf hr hQ hy hS h
theorem st28 {o0 o1 o2 o3 o4 o5 o6 o7 o8 o9 o10 o11 o12 o13 o14 o15 o16 o17 o18 o19 o20 o21 o22 o23 o24 o25 o26 o27 o28 : Oper} {r : List Oper} {fuel : Nat} {listed : Array Bool} {a : Act} {w : World} {rs : List Nat}
    (h : ∀ K' : Act → World → Prop, Shut (∀ a w, S w → (S w → wpAnyH P md (List.toArray (o0 :: o1 :: o2 :: o3 :: o4 :: o5 :: o6 :: o7 :: o8 :: o9 :: o10 :: o11 :: o12 :: o13 :: o14 :: o15 :: o16 :: o17 :: o18 :: o19 :: o20 :: o21 :: o22 :: o23 :: o24 :: o25 :: o26 :: o27 :: o28 :: r)) Q S fuel (listed.setIfInBounds 28 true) a w) → K' a w) → if Region.wanted o28 (yielded (List.toArray (o0 :: o1 :: o2 :: o3 :: o4 :: o5 :: o6 :: o7 :: o8 :: o9 :: o10 :: o11 :: o12 :: o13 :: o14 :: o15 :: o16 :: o17 :: o18 :: o19 :: o20 :: o21 :: o22 :: o23 :: o24 :: o25 :: o26 :: o27 :: o28 :: r)) a.tmps) = true then Oper.wp P o28 a w K' Q else K' (a.put o28.dst undef) w)
    (hs : AllReadyH P md (List.toArray (o0 :: o1 :: o2 :: o3 :: o4 :: o5 :: o6 :: o7 :: o8 :: o9 :: o10 :: o11 :: o12 :: o13 :: o14 :: o15 :: o16 :: o17 :: o18 :: o19 :: o20 :: o21 :: o22 :: o23 :: o24 :: o25 :: o26 :: o27 :: o28 :: r)) Q S fuel listed a w rs) : AllReadyH P md (List.toArray (o0 :: o1 :: o2 :: o3 :: o4 :: o5 :: o6 :: o7 :: o8 :: o9 :: o10 :: o11 :: o12 :: o13 :: o14 :: o15 :: o16 :: o17 :: o18 :: o19 :: o20 :: o21 :: o22 :: o23 :: o24 :: o25 :: o26 :: o27 :: o28 :: r)) Q S fuel listed a w (28 :: rs) := AllReadyH.cons (i := 28) rfl h hs
theorem tk29 {o0 o1 o2 o3 o4 o5 o6 o7 o8 o9 o10 o11 o12 o13 o14 o15 o16 o17 o18 o19 o20 o21 o22 o23 o24 o25 o26 o27 o28 o29 : Oper} {r : List Oper} {v : Value} {fuel : Nat} {listed : Array Bool} {a : Act} {w : World} (hs : Region.noSelect (List.toArray (o0 :: o1 :: o2 :: o3 :: o4 :: o5 :: o6 :: o7 :: o8 :: o9 :: o10 :: o11 :: o12 :: o13 :: o14 :: o15 :: o16 :: o17 :: o18 :: o19 :: o20 :: o21 :: o22 :: o23 :: o24 :: o25 :: o26 :: o27 :: o28 :: o29 :: r)) = true) (hf : Region.free md (List.toArray (o0 :: o1 :: o2 :: o3 :: o4 :: o5 :: o6 :: o7 :: o8 :: o9 :: o10 :: o11 :: o12 :: o13 :: o14 :: o15 :: o16 :: o17 :: o18 :: o19 :: o20 :: o21 :: o22 :: o23 :: o24 :: o25 :: o26 :: o27 :: o28 :: o29 :: r)) listed 29 = true)
    (hr : (Region.ready md (List.toArray (o0 :: o1 :: o2 :: o3 :: o4 :: o5 :: o6 :: o7 :: o8 :: o9 :: o10 :: o11 :: o12 :: o13 :: o14 :: o15 :: o16 :: o17 :: o18 :: o19 :: o20 :: o21 :: o22 :: o23 :: o24 :: o25 :: o26 :: o27 :: o28 :: o29 :: r)) listed).contains 29 = true) (hQ : ∀ c a w, Q (.panic c) (a.put o29.dst v) w → Q (.panic c) a w) (hy : YieldsIf P (List.toArray (o0 :: o1 :: o2 :: o3 :: o4 :: o5 :: o6 :: o7 :: o8 :: o9 :: o10 :: o11 :: o12 :: o13 :: o14 :: o15 :: o16 :: o17 :: o18 :: o19 :: o20 :: o21 :: o22 :: o23 :: o24 :: o25 :: o26 :: o27 :: o28 :: o29 :: r)) S o29 v a) (hS : S w)
    (h : wpAnyH P md (List.toArray (o0 :: o1 :: o2 :: o3 :: o4 :: o5 :: o6 :: o7 :: o8 :: o9 :: o10 :: o11 :: o12 :: o13 :: o14 :: o15 :: o16 :: o17 :: o18 :: o19 :: o20 :: o21 :: o22 :: o23 :: o24 :: o25 :: o26 :: o27 :: o28 :: o29 :: r)) Q S fuel (listed.setIfInBounds 29 true) (a.put o29.dst v) w) : wpAnyH P md (List.toArray (o0 :: o1 :: o2 :: o3 :: o4 :: o5 :: o6 :: o7 :: o8 :: o9 :: o10 :: o11 :: o12 :: o13 :: o14 :: o15 :: o16 :: o17 :: o18 :: o19 :: o20 :: o21 :: o22 :: o23 :: o24 :: o25 :: o26 :: o27 :: o28 :: o29 :: r)) Q S (fuel + 1) listed a w := wpAnyH_take (i := 29) rfl hs hf hr hQ hy hS h
theorem st29 {o0 o1 o2 o3 o4 o5 o6 o7 o8 o9 o10 o11 o12 o13 o14 o15 o16 o17 o18 o19 o20 o21 o22 o23 o24 o25 o26 o27 o28 o29 : Oper} {r : List Oper} {fuel : Nat} {listed : Array Bool} {a : Act} {w : World} {rs : List Nat}
    (h : ∀ K' : Act → World → Prop, Shut (∀ a w, S w → (S w → wpAnyH P md (List.toArray (o0 :: o1 :: o2 :: o3 :: o4 :: o5 :: o6 :: o7 :: o8 :: o9 :: o10 :: o11 :: o12 :: o13 :: o14 :: o15 :: o16 :: o17 :: o18 :: o19 :: o20 :: o21 :: o22 :: o23 :: o24 :: o25 :: o26 :: o27 :: o28 :: o29 :: r)) Q S fuel (listed.setIfInBounds 29 true) a w) → K' a w) → if Region.wanted o29 (yielded (List.toArray (o0 :: o1 :: o2 :: o3 :: o4 :: o5 :: o6 :: o7 :: o8 :: o9 :: o10 :: o11 :: o12 :: o13 :: o14 :: o15 :: o16 :: o17 :: o18 :: o19 :: o20 :: o21 :: o22 :: o23 :: o24 :: o25 :: o26 :: o27 :: o28 :: o29 :: r)) a.tmps) = true then Oper.wp P o29 a w K' Q else K' (a.put o29.dst undef) w)
    (hs : AllReadyH P md (List.toArray (o0 :: o1 :: o2 :: o3 :: o4 :: o5 :: o6 :: o7 :: o8 :: o9 :: o10 :: o11 :: o12 :: o13 :: o14 :: o15 :: o16 :: o17 :: o18 :: o19 :: o20 :: o21 :: o22 :: o23 :: o24 :: o25 :: o26 :: o27 :: o28 :: o29 :: r)) Q S fuel listed a w rs) : AllReadyH P md (List.toArray (o0 :: o1 :: o2 :: o3 :: o4 :: o5 :: o6 :: o7 :: o8 :: o9 :: o10 :: o11 :: o12 :: o13 :: o14 :: o15 :: o16 :: o17 :: o18 :: o19 :: o20 :: o21 :: o22 :: o23 :: o24 :: o25 :: o26 :: o27 :: o28 :: o29 :: r)) Q S fuel listed a w (29 :: rs) := AllReadyH.cons (i := 29) rfl h hs
end
end Go.Proofs.YtedbpjcglnkjmaaGreatDoor
namespace Go.Proofs.YtedbpjcglnkjmaaGreatDoor
open Go.RowKit Lx Pa

set_option maxRecDepth 100000 in
set_option maxHeartbeats 12000000 in
theorem head_any (w : World) : Calls Tryz.prog 10 #[] w fun e w' => e = .returned (.bool true) ∧ RowKit.Below w.heap.size w w' := by
  go_enter Tryz.func10, Tryz.ntmps10
  refine wp_hide ?_
  intro C7 hC7
  have HC7 := Lib.hid hC7
  clear hC7
  go_wp2_with fail
  refine (parK (l := hs1) _ (by rfl) by1 (by decide)).mono ?_
  rintro _ v ⟨vd, vr, vg, rfl, hV, hb⟩
  obtain ⟨rfl, hd, ns, hns, hr, hn⟩ := hV.1 rfl
  obtain ⟨g1, c1, rfl, -, hg1, hd1, hc1⟩ := own_at hd (by decide)
  obtain ⟨g2, c2, rfl, -, hg2, hr1, hc2⟩ := own_at hr (by decide)
  have HD1 := Lib.hid hd1
  have HR1 := Lib.hid hr1
  have HN := Lib.hid hn
  have HB := Lib.hid hb
  clear hV hd hr hd1 hr1 hn hb
  go_wp2_with fail
  obtain ⟨⟨x, y⟩, rfl⟩ : ∃ z, ns = [z] := by
    cases ns with
    | nil => simp at hns
    | cons z l => cases l with
      | nil => exact ⟨z, rfl⟩
      | cons _ _ => simp at hns
  have hr1' : RowAt v g2 (rV (ofsR hs1) hR x y) := by
    have := HR1.out
    unfold rFlat rFlat at this
    rw [List.append_nil] at this
    exact this
  have hnx : NodeA v (fun _ => True) (ofsR hs1) hR.whn x ∧ NodeA v (fun _ => True) (ofsR hs1) hR.give y :=
    ⟨NodeA.keep (Nat.le_refl _) (fun _ _ _ => rfl) (fun _ _ _ => trivial) _ _ (HN.out 0 (by simp) (by simp)).1, NodeA.keep (Nat.le_refl _) (fun _ _ _ => rfl) (fun _ _ _ => trivial) _ _ (HN.out 0 (by simp) (by simp)).2⟩
  have hd1' : RowAt v g1 (dV (ofsR hs1) hD) := by
    have := HD1.out
    simpa using this
  clear HR1 HN HD1 hns
  have al : ∀ (V : World) (o : Obj), RowKit.Below V.heap.size V (V.alloc o) := fun V o => (Below.refl _ _).alloc (Nat.le_refl _) o
  have sz : ∀ (V : World) (o : Obj), (V.alloc o).heap.size = V.heap.size + 1 := fun V o => by simp
  obtain ⟨n0, hn0⟩ : ∃ n, n = v.heap.size := ⟨_, rfl⟩
  obtain ⟨V1, hV1⟩ : ∃ V, V = v.alloc (.cells [.slice (some ⟨g1, 0, none⟩) 1 c1, .slice (some ⟨g2, 0, none⟩) 1 c2].toArray 26) := ⟨_, rfl⟩
  obtain ⟨V2, hV2⟩ : ∃ V, V = V1.alloc (.cells [.int .i64 2, .int .i64 61, .string (bs [114, 111, 111, 109, 115]), .int .i64 0, .int .i64 0, .bool false, .int .i64 0, .int .i64 0, .int .i64 0, .slice none 0 0].toArray 36) := ⟨_, rfl⟩
  obtain ⟨V3, hV3⟩ : ∃ V, V = V2.alloc (.cells [.int .i64 1, .int .i64 69, .string ⟨#[]⟩, .int .i64 1250, .int .i64 1, .bool false, .int .i64 1, .int .i64 0, .int .i64 0, .slice none 0 0].toArray 36) := ⟨_, rfl⟩
  obtain ⟨V4, hV4⟩ : ∃ V, V = V3.alloc (.cells [.string (bs [114, 111, 111, 109, 115]), .bool false, .int .i64 0, .int .i64 0, .int .i64 0, .int .i64 1, .int .i64 5, .int .i64 0].toArray 59) := ⟨_, rfl⟩
  have z1 : V1.heap.size = n0 + 1 := by rw [hV1, sz, hn0]
  have z2 : V2.heap.size = n0 + 1 + 1 := by rw [hV2, sz, z1]
  have z3 : V3.heap.size = n0 + 1 + 1 + 1 := by rw [hV3, sz, z2]
  have z4 : V4.heap.size = n0 + 1 + 1 + 1 + 1 := by rw [hV4, sz, z3]
  have b1 : RowKit.Below v.heap.size v V1 := by rw [hV1]; exact al _ _
  have b2 : RowKit.Below V1.heap.size V1 V2 := by rw [hV2]; exact al _ _
  have b3 : RowKit.Below V2.heap.size V2 V3 := by rw [hV3]; exact al _ _
  have b4 : RowKit.Below V3.heap.size V3 V4 := by rw [hV4]; exact al _ _
  have b14 : RowKit.Below v.heap.size v V4 := ((b1.trans (b2.mono (by omega))).trans (b3.mono (by omega))).trans (b4.mono (by omega))
  have cc : At2 V4 n0 (.slice (some ⟨g1, 0, none⟩) 1 c1) (.slice (some ⟨g2, 0, none⟩) 1 c2) := by
    have := At2.new v (.slice (some ⟨g1, 0, none⟩) 1 c1) (.slice (some ⟨g2, 0, none⟩) 1 c2) 26
    rw [← hn0] at this
    have h1 : At2 V1 n0 (.slice (some ⟨g1, 0, none⟩) 1 c1) (.slice (some ⟨g2, 0, none⟩) 1 c2) := by rw [hV1]; exact this
    exact ((h1.bel b2).bel b3).bel b4
  have r3 : RowAt V4 (n0 + 1) [.int .i64 2, .int .i64 61, .string (bs [114, 111, 111, 109, 115]), .int .i64 0, .int .i64 0, .bool false, .int .i64 0, .int .i64 0, .int .i64 0, .slice none 0 0] := by
    have := row_new V1 [.int .i64 2, .int .i64 61, .string (bs [114, 111, 111, 109, 115]), .int .i64 0, .int .i64 0, .bool false, .int .i64 0, .int .i64 0, .int .i64 0, .slice none 0 0] 36
    rw [z1, ← hV2] at this
    exact (this.bel (by simp) b3).bel (by simp) b4
  have r4 : RowAt V4 (n0 + 1 + 1) [.int .i64 1, .int .i64 69, .string ⟨#[]⟩, .int .i64 1250, .int .i64 1, .bool false, .int .i64 1, .int .i64 0, .int .i64 0, .slice none 0 0] := by
    have := row_new V2 [.int .i64 1, .int .i64 69, .string ⟨#[]⟩, .int .i64 1250, .int .i64 1, .bool false, .int .i64 1, .int .i64 0, .int .i64 0, .slice none 0 0] 36
    rw [z2, ← hV3] at this
    exact this.bel (by simp) b4
  have r5 : RowAt V4 (n0 + 1 + 1 + 1) [.string (bs [114, 111, 111, 109, 115]), .bool false, .int .i64 0, .int .i64 0, .int .i64 0, .int .i64 1, .int .i64 5, .int .i64 0] := by
    have := row_new V3 [.string (bs [114, 111, 111, 109, 115]), .bool false, .int .i64 0, .int .i64 0, .int .i64 0, .int .i64 1, .int .i64 5, .int .i64 0] 59
    rw [z3, ← hV4] at this
    exact this
  change Code.wp _ _ _ _ ((((v.alloc (.cells [.slice (some ⟨g1, 0, none⟩) 1 c1, .slice (some ⟨g2, 0, none⟩) 1 c2].toArray 26)).alloc (.cells [.int .i64 2, .int .i64 61, .string (bs [114, 111, 111, 109, 115]), .int .i64 0, .int .i64 0, .bool false, .int .i64 0, .int .i64 0, .int .i64 0, .slice none 0 0].toArray 36)).alloc (.cells [.int .i64 1, .int .i64 69, .string ⟨#[]⟩, .int .i64 1250, .int .i64 1, .bool false, .int .i64 1, .int .i64 0, .int .i64 0, .slice none 0 0].toArray 36)).alloc (.cells [.string (bs [114, 111, 111, 109, 115]), .bool false, .int .i64 0, .int .i64 0, .int .i64 0, .int .i64 1, .int .i64 5, .int .i64 0].toArray 59))
  rw [← hV1, ← hV2, ← hV3, ← hV4, ← hn0]
  have HB4 : Hid (RowKit.Below w.heap.size w V4) := HB.out.trans (b14.mono HB.out.size)
  have F1 := Lib.hid (hd1'.bel (by simp [dV]) b14)
  have F2 := Lib.hid (hr1'.bel (by rw [rV_len]; decide) b14)
  have F3 := Lib.hid (NodeA.bel b14 _ _ hnx.1)
  have F4 := Lib.hid (NodeA.bel b14 _ _ hnx.2)
  have F5 := Lib.hid cc
  have F6 := Lib.hid r5
  have R3 := Lib.hid r3
  have R4 := Lib.hid r4
  have HW := Lib.hid HB.out.size
  have HN0 := Lib.hid hn0
  clear hV1 hV2 hV3 hV4 z1 z2 z3 b1 b2 b3 b4 b14 cc r3 r4 r5 hd1' hr1' hnx HB hn0 hc1 hc2 hg1 hg2
  rw [HC7.out]
  clear HC7
  refine wp_region_lit ?_
  refine wl_build0 (.agg #[.int .i64 0, .int .i64 36525]) rfl rfl (by kernel_rfl) ?_
  simp only [Act.put, List.setIfInBounds_toArray, List.set_cons_zero, List.set_cons_succ]
  refine wl_build0 (.agg #[.int .i64 17, .int .i64 27, .string ⟨#[]⟩, .int .i64 0, .int .i64 0, .bool false, .int .i64 0, .int .i64 0, .int .i64 0, .slice none 0 0]) rfl rfl (by kernel_rfl) ?_
  simp only [Act.put, List.setIfInBounds_toArray, List.set_cons_zero, List.set_cons_succ]
  refine wl_load rfl rfl rfl (load_node _ _ _ rfl R3.out) ?_
  simp only [Act.put, List.setIfInBounds_toArray, List.set_cons_zero, List.set_cons_succ]
  refine wl_load rfl rfl rfl (load_node _ _ _ rfl R4.out) ?_
  simp only [Act.put, List.setIfInBounds_toArray, List.set_cons_zero, List.set_cons_succ]
  refine wl_slice2 (v := .slice (some ⟨V4.heap.size, 0, none⟩) 2 2) (w' := V4.alloc (.cells (hN1 ++ hN2).toArray 36)) rfl rfl rfl rfl (by kernel_rfl) ?_
  simp only [Act.put, List.setIfInBounds_toArray, List.set_cons_zero, List.set_cons_succ]
  rw [z4]
  refine wl_build0 (.agg #[.int .i64 5, .int .i64 61, .string ⟨#[]⟩, .int .i64 0, .int .i64 0, .bool false, .int .i64 0, .int .i64 0, .int .i64 0, .slice (some ⟨n0 + 1 + 1 + 1 + 1, 0, none⟩) 2 2]) rfl rfl (by kernel_rfl) ?_
  simp only [Act.put, List.setIfInBounds_toArray, List.set_cons_zero, List.set_cons_succ]
  obtain ⟨LL, hLL⟩ : ∃ LL, LL = rV idO hR' (⟨17, 27, ⟨#[]⟩, 0, 0, false, 0, 0, 0, none, 0, 0⟩ : NV) (⟨5, 61, ⟨#[]⟩, 0, 0, false, 0, 0, 0, some ⟨n0 + 1 + 1 + 1 + 1, 0, none⟩, 2, 2⟩ : NV) := ⟨_, rfl⟩
  have hL28 : LL.toArray.size = 28 := by rw [hLL]; rfl
  have hLo : LL.toArray.all (·.oneCell') = true := by rw [hLL]; simp [rV, NV.cells, Value.oneCell']
  refine wl_build0 (.agg LL.toArray) rfl rfl (by rw [hLL]; kernel_rfl) ?_
  simp only [Act.put, List.setIfInBounds_toArray, List.set_cons_zero, List.set_cons_succ]
  refine wl_alloc rfl rfl (alloc_rule _) ?_
  simp only [Act.put, List.setIfInBounds_toArray, List.set_cons_zero, List.set_cons_succ]
  refine wl_store rfl rfl rfl rfl (store_rule LL.toArray hL28 hLo _) ?_
  obtain ⟨V5, hV5⟩ : ∃ V, V = V4.alloc (.cells (hN1 ++ hN2).toArray 36) := ⟨_, rfl⟩
  obtain ⟨V6, hV6⟩ : ∃ V, V = V5.alloc (.cells LL.toArray 63) := ⟨_, rfl⟩
  have z5 : V5.heap.size = n0 + 1 + 1 + 1 + 1 + 1 := by rw [hV5, sz, z4]
  have z6 : V6.heap.size = n0 + 1 + 1 + 1 + 1 + 1 + 1 := by rw [hV6, sz, z5]
  have b5 : RowKit.Below V4.heap.size V4 V5 := by rw [hV5]; exact al _ _
  have b6 : RowKit.Below V5.heap.size V5 V6 := by rw [hV6]; exact al _ _
  have b46 : RowKit.Below V4.heap.size V4 V6 := b5.trans (b6.mono (by omega))
  have hk5 : V5.heap[n0 + 1 + 1 + 1 + 1]? = some (.cells ([(⟨2, 61, bs [114, 111, 111, 109, 115], 0, 0, false, 0, 0, 0, none, 0, 0⟩ : NV), (⟨1, 69, ⟨#[]⟩, 1250, 1, false, 1, 0, 0, none, 0, 0⟩ : NV)].flatMap NV.cells).toArray 36) := by
    rw [hV5, ← z4]
    exact heap_alloc_last V4 _
  have my : NodeA V5 (fun _ => True) idO hR'.give (⟨5, 61, ⟨#[]⟩, 0, 0, false, 0, 0, 0, some ⟨n0 + 1 + 1 + 1 + 1, 0, none⟩, 2, 2⟩ : NV) := node_at (T := 36) [_, _] [(⟨2, 61, bs [114, 111, 111, 109, 115], 0, 0, false, 0, 0, 0, none, 0, 0⟩ : NV), (⟨1, 69, ⟨#[]⟩, 1250, 1, false, 1, 0, 0, none, 0, 0⟩ : NV)] 5 61 2 rfl trivial (fun i h h' => by
    match i, h, h' with
    | 0, _, _ => exact leafA _ _ _ _ _ _ _ _ _
    | 1, _, _ => exact leafA _ _ _ _ _ _ _ _ _) hk5
  have r6 : RowAt V6 (n0 + 1 + 1 + 1 + 1 + 1) LL := by
    have := row_new V5 LL 63
    rw [z5, ← hV6] at this
    exact this
  have H6 := Lib.hid (HF.mk (F5.out.bel b46) (F1.out.bel (by simp [dV]) b46) (F2.out.bel (by rw [rV_len]; decide) b46) (NodeA.bel b46 _ _ F3.out) (NodeA.bel b46 _ _ F4.out) (F6.out.bel (by simp) b46) (hLL ▸ r6) (leafA V6 (fun _ => True) idO 17 27 [] 0 0 1) (NodeA.bel b6 _ _ my))
  have HB6 := Lib.hid (HB4.out.trans (b46.mono (by have := HW.out; have := HN0.out; omega)))
  have HW6 : Hid (w.heap.size ≤ V6.heap.size) := HB6.out.size
  rw [← hV5]
  rw [← hV6, z5]
  clear hV5 hV6 z4 z5 z6 b5 b6 b46 hk5 my r6 hLL hL28 hLo F1 F2 F3 F4 F5 F6 R3 R4 HB4 HW HN0 al
  go_wp2_with fail
  refine (exprK (l := hs4) _ (by rfl) ex4 (by decide)).mono ?_
  rintro _ v2 ⟨⟨xo, xa, xs, xn, xd, xf, xm, xr, xy, xq, xk, xc⟩, rfl, hx, hb⟩
  have H7 := Lib.hid (H6.out.bel hb)
  have HX : Hid (NodeA v2 (fun _ => True) (ofsR hs4) hN ⟨xo, xa, xs, xn, xd, xf, xm, xr, xy, xq, xk, xc⟩) := NodeA.keep (Nat.le_refl _) (fun _ _ _ => rfl) (fun _ _ _ => trivial) _ _ hx
  have HB7 := Lib.hid (HB6.out.trans (hb.mono HW6.out))
  clear hx hb H6 HB6 HW6
  unfold nv
  go_wp2_with fail
  have al : ∀ (V : World) (o : Obj), RowKit.Below V.heap.size V (V.alloc o) := fun V o => (Below.refl _ _).alloc (Nat.le_refl _) o
  obtain ⟨n1, hn1⟩ : ∃ n, n = v2.heap.size := ⟨_, rfl⟩
  obtain ⟨W1, hW1⟩ : ∃ V, V = v2.alloc (.cells [.int .i64 xo, .int .i64 xa, .string xs, .int .i64 xn, .int .i64 xd, .bool xf, .int .i64 xm, .int .i64 xr, .int .i64 xy, .slice xq xk xc].toArray 36) := ⟨_, rfl⟩
  obtain ⟨W2, hW2⟩ : ∃ V, V = W1.alloc (.cells ([hNb, hNo].flatMap NV.cells).toArray 36) := ⟨_, rfl⟩
  obtain ⟨W3, hW3⟩ : ∃ V, V = W2.alloc (.cells (NV.cells (hNs (n1 + 1))).toArray 36) := ⟨_, rfl⟩
  obtain ⟨W4, hW4⟩ : ∃ V, V = W3.alloc (.cells ([hNs (n1 + 1), hNa].flatMap NV.cells).toArray 36) := ⟨_, rfl⟩
  obtain ⟨W5, hW5⟩ : ∃ V, V = W4.alloc (.cells (NV.cells (hNl (n1 + 1 + 1 + 1))).toArray 36) := ⟨_, rfl⟩
  have z1 : W1.heap.size = n1 + 1 := by rw [hW1, sz, hn1]
  have z2 : W2.heap.size = n1 + 1 + 1 := by rw [hW2, sz, z1]
  have z3 : W3.heap.size = n1 + 1 + 1 + 1 := by rw [hW3, sz, z2]
  have z4 : W4.heap.size = n1 + 1 + 1 + 1 + 1 := by rw [hW4, sz, z3]
  have z5 : W5.heap.size = n1 + 1 + 1 + 1 + 1 + 1 := by rw [hW5, sz, z4]
  have b1 : RowKit.Below v2.heap.size v2 W1 := by rw [hW1]; exact al _ _
  have b2 : RowKit.Below W1.heap.size W1 W2 := by rw [hW2]; exact al _ _
  have b3 : RowKit.Below W2.heap.size W2 W3 := by rw [hW3]; exact al _ _
  have b4 : RowKit.Below W3.heap.size W3 W4 := by rw [hW4]; exact al _ _
  have b5 : RowKit.Below W4.heap.size W4 W5 := by rw [hW5]; exact al _ _
  have b15 : RowKit.Below W1.heap.size W1 W5 := ((b2.trans (b3.mono (by omega))).trans (b4.mono (by omega))).trans (b5.mono (by omega))
  have b05 : RowKit.Below v2.heap.size v2 W5 := b1.trans (b15.mono (by omega))
  have r7 : RowAt W5 n1 [.int .i64 xo, .int .i64 xa, .string xs, .int .i64 xn, .int .i64 xd, .bool xf, .int .i64 xm, .int .i64 xr, .int .i64 xy, .slice xq xk xc] := by
    have := row_new v2 [.int .i64 xo, .int .i64 xa, .string xs, .int .i64 xn, .int .i64 xd, .bool xf, .int .i64 xm, .int .i64 xr, .int .i64 xy, .slice xq xk xc] 36
    rw [← hn1, ← hW1] at this
    exact this.bel (by simp) b15
  have r11 : RowAt W5 (n1 + 1 + 1 + 1 + 1) (NV.cells (hNl (n1 + 1 + 1 + 1))) := by
    have := row_new W4 (NV.cells (hNl (n1 + 1 + 1 + 1))) 36
    rw [z4, ← hW5] at this
    exact this
  have hk2 : W2.heap[n1 + 1]? = some (.cells ([hNb, hNo].flatMap NV.cells).toArray 36) := by
    rw [hW2, ← z1]; exact heap_alloc_last W1 _
  have ms : NodeA W2 (fun _ => True) idO (.mk 3 4 [] 0 0 1 [.mk 2 4 [98] 0 0 1 [], .mk 1 8 [] 1 1 1 []]) (hNs (n1 + 1)) := node_at (T := 36) [_, _] [hNb, hNo] 3 4 2 rfl trivial (fun i h h' => by
    match i, h, h' with
    | 0, _, _ => exact leafA _ _ _ _ _ _ _ _ _
    | 1, _, _ => exact leafA _ _ _ _ _ _ _ _ _) hk2
  have hk4 : W4.heap[n1 + 1 + 1 + 1]? = some (.cells ([hNs (n1 + 1), hNa].flatMap NV.cells).toArray 36) := by
    rw [hW4, ← z3]; exact heap_alloc_last W3 _
  have ms4 := NodeA.bel (b3.trans (b4.mono (by omega))) _ _ ms
  have ml : NodeA W4 (fun _ => True) idO hN' (hNl (n1 + 1 + 1 + 1)) := node_at (T := 36) [_, _] [hNs (n1 + 1), hNa] 11 0 2 rfl trivial (fun i h h' => by
    match i, h, h' with
    | 0, _, _ => exact ms4
    | 1, _, _ => exact leafA _ _ _ _ _ _ _ _ _) hk4
  have H8 := Lib.hid (H7.out.bel b05)
  have HX8 := Lib.hid (NodeA.bel b05 _ _ HX.out)
  have HL8 := Lib.hid (NodeA.bel b5 _ _ ml)
  have HB8 := Lib.hid (HB7.out.trans (b05.mono HB7.out.size))
  have R7 := Lib.hid r7
  have R11 := Lib.hid r11
  change Calls _ _ _ (((((v2.alloc (.cells [.int .i64 xo, .int .i64 xa, .string xs, .int .i64 xn, .int .i64 xd, .bool xf, .int .i64 xm, .int .i64 xr, .int .i64 xy, .slice xq xk xc].toArray 36)).alloc (.cells ([hNb, hNo].flatMap NV.cells).toArray 36)).alloc (.cells (NV.cells (hNs (v2.heap.size + 1))).toArray 36)).alloc (.cells ([hNs (v2.heap.size + 1), hNa].flatMap NV.cells).toArray 36)).alloc (.cells (NV.cells (hNl (v2.heap.size + 1 + 1 + 1))).toArray 36)) _
  rw [← hn1, ← hW1, ← hW2, ← hW3, ← hW4, ← hW5]
  clear hW1 hW2 hW3 hW4 hW5 z1 z2 z3 z4 z5 b1 b2 b3 b4 b5 b15 b05 r7 r11 hk2 ms hk4 ms4 ml H7 HX HB7 al hn1
  refine (parK (l := hs2) _ (by rfl) by2 (by decide)).mono ?_
  rintro _ v3 ⟨vd, vr, vg, rfl, hV, hb⟩
  obtain ⟨rfl, rfl, hg⟩ := hV.2 (by simp)
  obtain ⟨g3, c3, rfl, -, -, hg3, hc3⟩ := own_at hg (by decide)
  have H9 := Lib.hid (H8.out.bel hb)
  have HX9 := Lib.hid (NodeA.bel hb _ _ HX8.out)
  have HL9 := Lib.hid (NodeA.bel hb _ _ HL8.out)
  have HB9 := Lib.hid (HB8.out.trans (hb.mono HB8.out.size))
  have R7b := Lib.hid (R7.out.bel (by simp) hb)
  have R11b := Lib.hid (R11.out.bel (by simp [NV.cells]) hb)
  have G3 := Lib.hid hg3
  clear hV hg hg3 hb H8 HX8 HL8 HB8 R7 R11 hc3
  go_wp2_with fail
  have R79 := R7b
  have R119 := R11b
  have G39 := G3
  clear R7b R11b G3
  have b1 := (Below.refl v3.heap.size v3).alloc (Nat.le_refl _) (.cells #[.slice none 0 0, .slice none 0 0] 26)
  have H10 := Lib.hid (H9.out.bel b1)
  have HX10 := Lib.hid (NodeA.bel b1 _ _ HX9.out)
  have HL10 := Lib.hid (NodeA.bel b1 _ _ HL9.out)
  have HB10 := Lib.hid (HB9.out.trans (b1.mono HB9.out.size))
  have R710 := Lib.hid (R79.out.bel (by simp) b1)
  have R1110 := Lib.hid (R119.out.bel (by simp [NV.cells]) b1)
  have G310 := Lib.hid (G39.out.bel (by simp [gV]) b1)
  clear H9 HX9 HL9 HB9 R79 R119 G39
  clear b1
  generalize v3.alloc (.cells #[.slice none 0 0, .slice none 0 0] 26) = u3 at *
  generalize v3.heap.size = m3 at *
  refine (parK (l := hs3) _ (by rfl) by3 (by decide)).mono ?_
  rintro _ v4 ⟨vd, vr, vg, rfl, hV, hb⟩
  obtain ⟨rfl, rfl, hg⟩ := hV.2 (by simp)
  obtain ⟨g4, c4, rfl, -, -, hg4, hc4⟩ := own_at hg (by decide)
  have H11 := Lib.hid (H10.out.bel hb)
  have HX11 := Lib.hid (NodeA.bel hb _ _ HX10.out)
  have HL11 := Lib.hid (NodeA.bel hb _ _ HL10.out)
  have HB11 := Lib.hid (HB10.out.trans (hb.mono HB10.out.size))
  have R711 := Lib.hid (R710.out.bel (by simp) hb)
  have R1111 := Lib.hid (R1110.out.bel (by simp [NV.cells]) hb)
  have G311 := Lib.hid (G310.out.bel (by simp [gV]) hb)
  have G411 := Lib.hid hg4
  clear hV hg hg4 hb
  clear H10 HX10 HL10 HB10 R710 R1110 G310
  go_wp2_with fail
  have b1 := (Below.refl v4.heap.size v4).alloc (Nat.le_refl _) (.cells #[.slice none 0 0, .slice none 0 0] 26)
  have H12 := Lib.hid (H11.out.bel b1)
  have HX12 := Lib.hid (NodeA.bel b1 _ _ HX11.out)
  have HL12 := Lib.hid (NodeA.bel b1 _ _ HL11.out)
  have HB12 := Lib.hid (HB11.out.trans (b1.mono HB11.out.size))
  have R712 := Lib.hid (R711.out.bel (by simp) b1)
  have R1112 := Lib.hid (R1111.out.bel (by simp [NV.cells]) b1)
  have G312 := Lib.hid (G311.out.bel (by simp [gV]) b1)
  have G412 := Lib.hid (G411.out.bel (by simp [gV]) b1)
  clear H11 HX11 HL11 HB11 R711 R1111 G311 G411
  clear b1
  generalize v4.alloc (.cells #[.slice none 0 0, .slice none 0 0] 26) = u4 at *
  generalize v4.heap.size = m4 at *
  refine (exprE (l := hs5) _ (by rfl) ex5 (by decide)).mono ?_
  rintro _ v5 ⟨rfl, hb⟩
  have b1 := (Below.refl v5.heap.size v5).alloc (Nat.le_refl _) (.cells #[.int .i64 0, .int .i64 0, .string ⟨#[]⟩, .int .i64 0, .int .i64 0, .bool false, .int .i64 0, .int .i64 0, .int .i64 0, .slice none 0 0] 36)
  have b2 := hb.trans (b1.mono hb.size)
  have H13 := Lib.hid (H12.out.bel b2)
  have HX13 := Lib.hid (NodeA.bel b2 _ _ HX12.out)
  have HL13 := Lib.hid (NodeA.bel b2 _ _ HL12.out)
  have HB13 := Lib.hid (HB12.out.trans (b2.mono HB12.out.size))
  have R713 := Lib.hid (R712.out.bel (by simp) b2)
  have R1113 := Lib.hid (R1112.out.bel (by simp [NV.cells]) b2)
  have G313 := Lib.hid (G312.out.bel (by simp [gV]) b2)
  have G413 := Lib.hid (G412.out.bel (by simp [gV]) b2)
  clear H12 HX12 HL12 HB12 R712 R1112 G312 G412
  clear b1 b2 hb
  have p0 := R713.out 0 _ rfl
  have p1 := R713.out 1 _ rfl
  have p2 := R713.out 2 _ rfl
  have p3 := R713.out 3 _ rfl
  have p4 := R713.out 4 _ rfl
  have p5 := R713.out 5 _ rfl
  have p6 := R713.out 6 _ rfl
  have p7 := R713.out 7 _ rfl
  have p8 := R713.out 8 _ rfl
  have p9 := R713.out 9 _ rfl
  have q0 : (v5.alloc (.cells #[.int .i64 0, .int .i64 0, .string ⟨#[]⟩, .int .i64 0, .int .i64 0, .bool false, .int .i64 0, .int .i64 0, .int .i64 0, .slice none 0 0] 36)).cell? ⟨n1 + 1 + 1 + 1 + 1, 0, none⟩ = some (.int .i64 11) := R1113.out 0 _ rfl
  have q1 : (v5.alloc (.cells #[.int .i64 0, .int .i64 0, .string ⟨#[]⟩, .int .i64 0, .int .i64 0, .bool false, .int .i64 0, .int .i64 0, .int .i64 0, .slice none 0 0] 36)).cell? ⟨n1 + 1 + 1 + 1 + 1, 1, none⟩ = some (.int .i64 0) := R1113.out 1 _ rfl
  have q2 : (v5.alloc (.cells #[.int .i64 0, .int .i64 0, .string ⟨#[]⟩, .int .i64 0, .int .i64 0, .bool false, .int .i64 0, .int .i64 0, .int .i64 0, .slice none 0 0] 36)).cell? ⟨n1 + 1 + 1 + 1 + 1, 2, none⟩ = some (.string ⟨#[]⟩) := R1113.out 2 _ rfl
  have q3 : (v5.alloc (.cells #[.int .i64 0, .int .i64 0, .string ⟨#[]⟩, .int .i64 0, .int .i64 0, .bool false, .int .i64 0, .int .i64 0, .int .i64 0, .slice none 0 0] 36)).cell? ⟨n1 + 1 + 1 + 1 + 1, 3, none⟩ = some (.int .i64 0) := R1113.out 3 _ rfl
  have q4 : (v5.alloc (.cells #[.int .i64 0, .int .i64 0, .string ⟨#[]⟩, .int .i64 0, .int .i64 0, .bool false, .int .i64 0, .int .i64 0, .int .i64 0, .slice none 0 0] 36)).cell? ⟨n1 + 1 + 1 + 1 + 1, 4, none⟩ = some (.int .i64 0) := R1113.out 4 _ rfl
  have q5 : (v5.alloc (.cells #[.int .i64 0, .int .i64 0, .string ⟨#[]⟩, .int .i64 0, .int .i64 0, .bool false, .int .i64 0, .int .i64 0, .int .i64 0, .slice none 0 0] 36)).cell? ⟨n1 + 1 + 1 + 1 + 1, 5, none⟩ = some (.bool false) := R1113.out 5 _ rfl
  have q6 : (v5.alloc (.cells #[.int .i64 0, .int .i64 0, .string ⟨#[]⟩, .int .i64 0, .int .i64 0, .bool false, .int .i64 0, .int .i64 0, .int .i64 0, .slice none 0 0] 36)).cell? ⟨n1 + 1 + 1 + 1 + 1, 6, none⟩ = some (.int .i64 0) := R1113.out 6 _ rfl
  have q7 : (v5.alloc (.cells #[.int .i64 0, .int .i64 0, .string ⟨#[]⟩, .int .i64 0, .int .i64 0, .bool false, .int .i64 0, .int .i64 0, .int .i64 0, .slice none 0 0] 36)).cell? ⟨n1 + 1 + 1 + 1 + 1, 7, none⟩ = some (.int .i64 0) := R1113.out 7 _ rfl
  have q8 : (v5.alloc (.cells #[.int .i64 0, .int .i64 0, .string ⟨#[]⟩, .int .i64 0, .int .i64 0, .bool false, .int .i64 0, .int .i64 0, .int .i64 0, .slice none 0 0] 36)).cell? ⟨n1 + 1 + 1 + 1 + 1, 8, none⟩ = some (.int .i64 0) := R1113.out 8 _ rfl
  have q9 : (v5.alloc (.cells #[.int .i64 0, .int .i64 0, .string ⟨#[]⟩, .int .i64 0, .int .i64 0, .bool false, .int .i64 0, .int .i64 0, .int .i64 0, .slice none 0 0] 36)).cell? ⟨n1 + 1 + 1 + 1 + 1, 9, none⟩ = some (.slice (some ⟨n1 + 1 + 1 + 1, 0, none⟩) 2 2) := R1113.out 9 _ rfl
  go_wp2_with fail
  change Calls _ _ _ (v5.alloc (.cells #[.int .i64 0, .int .i64 0, .string ⟨#[]⟩, .int .i64 0, .int .i64 0, .bool false, .int .i64 0, .int .i64 0, .int .i64 0, .slice none 0 0] 36)) _
  generalize v5.alloc (.cells #[.int .i64 0, .int .i64 0, .string ⟨#[]⟩, .int .i64 0, .int .i64 0, .bool false, .int .i64 0, .int .i64 0, .int .i64 0, .slice none 0 0] 36) = u5 at *
  generalize v5.heap.size = m5 at *
  clear p0 q0 p1 q1 p2 q2 p3 q3 p4 q4 p5 q5 p6 q6 p7 q7 p8 q8 p9 q9
  have KS := same_any true (ofsR hs4) idO _ hN hN' (Nat.le_refl _) (by decide) _ _ _ _ _ HX13.out HL13.out
  rw [eq4] at KS
  refine KS.mono ?_
  rintro _ v6 ⟨rfl, hb⟩
  have H14 := Lib.hid (H13.out.bel hb)
  have HX14 := Lib.hid (NodeA.bel hb _ _ HX13.out)
  have HL14 := Lib.hid (NodeA.bel hb _ _ HL13.out)
  have HB14 := Lib.hid (HB13.out.trans (hb.mono HB13.out.size))
  have R714 := Lib.hid (R713.out.bel (by simp) hb)
  have R1114 := Lib.hid (R1113.out.bel (by simp [NV.cells]) hb)
  have G314 := Lib.hid (G313.out.bel (by simp [gV]) hb)
  have G414 := Lib.hid (G413.out.bel (by simp [gV]) hb)
  clear H13 HX13 HL13 HB13 R713 R1113 G313 G413
  clear hb KS
  go_wp2_with fail
  have hS : Hid (RowKit.Below v6.heap.size v6 v6.drew) := (Below.refl _ _).drew
  refine wp_region_held (S := fun w' : World => Hid (RowKit.Below v6.heap.size v6 w')) mixed ?_
  change wpAnyH _ _ _ _ _ _ _ _ v6.drew
  refine tk0 (v := (.bool true)) (by kernel_rfl) (by kernel_rfl) (by kernel_rfl) (fun _ _ _ h => h) (Or.inl ⟨by kernel_rfl, ?_⟩) hS ?_
  · intro w' hSw
    go_simp; try with_reducible rfl
  simp only [Act.put, List.setIfInBounds_toArray, List.set_cons_zero, List.set_cons_succ]
  refine tk1 (v := (.bool true)) (by kernel_rfl) (by kernel_rfl) (by kernel_rfl) (fun _ _ _ h => h) (Or.inl ⟨by kernel_rfl, ?_⟩) hS ?_
  · intro w' hSw
    go_simp; try with_reducible rfl
  simp only [Act.put, List.setIfInBounds_toArray, List.set_cons_zero, List.set_cons_succ]
  refine tk2 (v := .pointer (some ⟨n0, 0, none⟩)) (by kernel_rfl) (by kernel_rfl) (by kernel_rfl) (fun _ _ _ h => h) (Or.inl ⟨by kernel_rfl, ?_⟩) hS ?_
  · intro w' hSw
    go_simp; try with_reducible rfl
  simp only [Act.put, List.setIfInBounds_toArray, List.set_cons_zero, List.set_cons_succ]
  refine tk3 (v := .slice (some ⟨g1, 0, none⟩) 1 c1) (by kernel_rfl) (by kernel_rfl) (by kernel_rfl) (fun _ _ _ h => h) (Or.inl ⟨by kernel_rfl, ?_⟩) hS ?_
  · intro w' hSw
    have hc := (H14.out.c.bel hSw.out).c0
    go_simp; try with_reducible rfl
  simp only [Act.put, List.setIfInBounds_toArray, List.set_cons_zero, List.set_cons_succ]
  refine tk4 (v := .pointer (some ⟨g1, 0, none⟩)) (by kernel_rfl) (by kernel_rfl) (by kernel_rfl) (fun _ _ _ h => h) (Or.inl ⟨by kernel_rfl, ?_⟩) hS ?_
  · intro w' hSw
    go_simp; try with_reducible rfl
  simp only [Act.put, List.setIfInBounds_toArray, List.set_cons_zero, List.set_cons_succ]
  refine tk5 (v := .agg (dV (ofsR hs1) hD).toArray) (by kernel_rfl) (by kernel_rfl) (by kernel_rfl) (fun _ _ _ h => h) (Or.inl ⟨by kernel_rfl, ?_⟩) hS ?_
  · intro w' hSw
    exact ex_load rfl rfl (load_row _ 8 (by kernel_rfl) (by kernel_rfl) _ g1 _ rfl (H14.out.d1.bel (by simp [dV]) hSw.out))
  simp only [Act.put, List.setIfInBounds_toArray, List.set_cons_zero, List.set_cons_succ]
  refine tk6 (v := .agg [.string (bs [114, 111, 111, 109, 115]), .bool false, .int .i64 0, .int .i64 0, .int .i64 0, .int .i64 1, .int .i64 5, .int .i64 0].toArray) (by kernel_rfl) (by kernel_rfl) (by kernel_rfl) (fun _ _ _ h => h) (Or.inl ⟨by kernel_rfl, ?_⟩) hS ?_
  · intro w' hSw
    exact ex_load rfl rfl (load_row _ 8 (by kernel_rfl) (by kernel_rfl) _ _ _ rfl (H14.out.db.bel (by simp) hSw.out))
  simp only [Act.put, List.setIfInBounds_toArray, List.set_cons_zero, List.set_cons_succ]
  refine wpAnyH_ready (rs := [7]) (by kernel_rfl) (by simp) (st7 (fun K hK => ?_) AllReadyH.nil)
  refine (if_pos (by kernel_rfl)).mpr ?_
  refine wp_callv rfl (by rfl) ?_
  refine (decl1 _).mono ?_
  rintro _ w7 ⟨rfl, hb⟩
  have hSw7 : Hid (RowKit.Below v6.heap.size v6 w7) := hS.out.trans (hb.mono hS.out.size)
  clear hb
  replace hS := hSw7
  refine hK.out _ _ ?_ (fun hHeld => ?_)
  · exact hS
  clear hK K
  try simp only [Act.put, List.setIfInBounds_toArray, List.set_cons_zero, List.set_cons_succ]
  refine tk8 (v := (.bool true)) (by kernel_rfl) (by kernel_rfl) (by kernel_rfl) (fun _ _ _ h => h) (Or.inl ⟨by kernel_rfl, ?_⟩) hS ?_
  · intro w' hSw
    go_simp; try with_reducible rfl
  simp only [Act.put, List.setIfInBounds_toArray, List.set_cons_zero, List.set_cons_succ]
  refine tk9 (v := (.bool true)) (by kernel_rfl) (by kernel_rfl) (by kernel_rfl) (fun _ _ _ h => h) (Or.inl ⟨by kernel_rfl, ?_⟩) hS ?_
  · intro w' hSw
    go_simp; try with_reducible rfl
  simp only [Act.put, List.setIfInBounds_toArray, List.set_cons_zero, List.set_cons_succ]
  refine tk10 (v := .pointer (some ⟨n0, 1, none⟩)) (by kernel_rfl) (by kernel_rfl) (by kernel_rfl) (fun _ _ _ h => h) (Or.inl ⟨by kernel_rfl, ?_⟩) hS ?_
  · intro w' hSw
    go_simp; try with_reducible rfl
  simp only [Act.put, List.setIfInBounds_toArray, List.set_cons_zero, List.set_cons_succ]
  refine tk11 (v := .slice (some ⟨g2, 0, none⟩) 1 c2) (by kernel_rfl) (by kernel_rfl) (by kernel_rfl) (fun _ _ _ h => h) (Or.inl ⟨by kernel_rfl, ?_⟩) hS ?_
  · intro w' hSw
    have hc := (H14.out.c.bel hSw.out).c1
    go_simp; try with_reducible rfl
  simp only [Act.put, List.setIfInBounds_toArray, List.set_cons_zero, List.set_cons_succ]
  refine tk12 (v := .pointer (some ⟨g2, 0, none⟩)) (by kernel_rfl) (by kernel_rfl) (by kernel_rfl) (fun _ _ _ h => h) (Or.inl ⟨by kernel_rfl, ?_⟩) hS ?_
  · intro w' hSw
    go_simp; try with_reducible rfl
  simp only [Act.put, List.setIfInBounds_toArray, List.set_cons_zero, List.set_cons_succ]
  refine tk13 (v := .agg (rV (ofsR hs1) hR x y).toArray) (by kernel_rfl) (by kernel_rfl) (by kernel_rfl) (fun _ _ _ h => h) (Or.inl ⟨by kernel_rfl, ?_⟩) hS ?_
  · intro w' hSw
    exact ex_load rfl rfl (load_rule _ g2 _ rfl (H14.out.r1.bel (by rw [rV_len]; decide) hSw.out))
  simp only [Act.put, List.setIfInBounds_toArray, List.set_cons_zero, List.set_cons_succ]
  obtain ⟨x', hx'⟩ : ∃ z, z = (⟨17, idO 27, bs [], 0, 0, uF 1, uM 1, uA 1, uD 1, none, 0, 0⟩ : NV) := ⟨_, rfl⟩
  obtain ⟨y', hy'⟩ : ∃ z, z = (⟨5, 61, ⟨#[]⟩, 0, 0, false, 0, 0, 0, some ⟨n0 + 1 + 1 + 1 + 1, 0, none⟩, 2, 2⟩ : NV) := ⟨_, rfl⟩
  rw [← hx', ← hy'] at H14
  refine tk14 (v := .agg (rV idO hR' x' y').toArray) (by kernel_rfl) (by kernel_rfl) (by kernel_rfl) (fun _ _ _ h => h) (Or.inl ⟨by kernel_rfl, ?_⟩) hS ?_
  · intro w' hSw
    exact ex_load rfl rfl (load_rule _ _ _ rfl (H14.out.rb.bel (by rw [rV_len]; decide) hSw.out))
  simp only [Act.put, List.setIfInBounds_toArray, List.set_cons_zero, List.set_cons_succ]
  refine wpAnyH_ready (rs := [15]) (by kernel_rfl) (by simp) (st15 (fun K hK => ?_) AllReadyH.nil)
  refine (if_pos (by kernel_rfl)).mpr ?_
  refine wp_callv rfl (by rfl) ?_
  refine (sameRule_any true (ofsR hs1) idO hR hR' (fun _ => True) (fun _ => True) x y x' y' _ (H14.out.bel hS.out).nx (H14.out.bel hS.out).ny (H14.out.bel hS.out).mx (H14.out.bel hS.out).my (by decide) (by decide) eq1).mono ?_
  rintro _ w15 ⟨rfl, hb⟩
  have hSw15 : Hid (RowKit.Below v6.heap.size v6 w15) := hS.out.trans (hb.mono hS.out.size)
  clear hb
  replace hS := hSw15
  refine hK.out _ _ ?_ (fun hHeld => ?_)
  · exact hS
  clear hK K
  try simp only [Act.put, List.setIfInBounds_toArray, List.set_cons_zero, List.set_cons_succ]
  refine tk16 (v := (.bool true)) (by kernel_rfl) (by kernel_rfl) (by kernel_rfl) (fun _ _ _ h => h) (Or.inl ⟨by kernel_rfl, ?_⟩) hS ?_
  · intro w' hSw
    go_simp; try with_reducible rfl
  simp only [Act.put, List.setIfInBounds_toArray, List.set_cons_zero, List.set_cons_succ]
  refine tk17 (v := (.bool true)) (by kernel_rfl) (by kernel_rfl) (by kernel_rfl) (fun _ _ _ h => h) (Or.inl ⟨by kernel_rfl, ?_⟩) hS ?_
  · intro w' hSw
    go_simp; try with_reducible rfl
  simp only [Act.put, List.setIfInBounds_toArray, List.set_cons_zero, List.set_cons_succ]
  refine tk18 (v := .slice (some ⟨g3, 0, none⟩) 1 c3) (by kernel_rfl) (by kernel_rfl) (by kernel_rfl) (fun _ _ _ h => h) (Or.inl ⟨by kernel_rfl, ?_⟩) hS ?_
  · intro w' hSw
    go_simp; try with_reducible rfl
  simp only [Act.put, List.setIfInBounds_toArray, List.set_cons_zero, List.set_cons_succ]
  refine tk19 (v := .agg #[.int .i64 12, .int .i64 3]) (by kernel_rfl) (by kernel_rfl) (by kernel_rfl) (fun _ _ _ h => h) (Or.inl ⟨by kernel_rfl, ?_⟩) hS ?_
  · intro w' hSw
    go_simp; try with_reducible rfl
  simp only [Act.put, List.setIfInBounds_toArray, List.set_cons_zero, List.set_cons_succ]
  refine wpAnyH_ready (rs := [20]) (by kernel_rfl) (by simp) (st20 (fun K hK => ?_) AllReadyH.nil)
  go_simp
  have ba := (Below.refl w15.heap.size w15).alloc (Nat.le_refl _) (.cells #[.int .i64 12, .int .i64 3] 49)
  have A21 := Lib.hid (At2.new w15 (.int .i64 12) (.int .i64 3) 49)
  have hS2 : Hid (RowKit.Below v6.heap.size v6 (w15.alloc (.cells #[.int .i64 12, .int .i64 3] 49))) := hS.out.trans (ba.mono hS.out.size)
  clear ba
  replace hS := hS2
  refine hK.out _ _ ?_ (fun hHeld => ?_)
  · exact hS
  clear hK K
  try simp only [Act.put, List.setIfInBounds_toArray, List.set_cons_zero, List.set_cons_succ]
  have RG21 := G314.out.bel (by simp [gV]) hS.out
  refine wpAnyH_ready (rs := [21]) (by kernel_rfl) (by simp) (st21 (fun K hK => ?_) AllReadyH.nil)
  refine (if_pos (by kernel_rfl)).mpr ?_
  refine wp_callv rfl (by rfl) ?_
  refine (sameDiags_any 1 (fun j => if j = 0 then 12 else 3) g3 w15.heap.size c3 1 _ _ _ (fun _ => rfl) (fun _ => rfl) (fun j hj => by
    match j, hj with
    | 0, _ => exact (RG21 0 _ rfl).trans (by rw [of2]; rfl)
    | 1, _ => exact RG21 1 _ rfl) (fun j hj => by
    match j, hj with
    | 0, _ => exact A21.out.c0
    | 1, _ => exact A21.out.c1) (by decide)).mono ?_
  rintro _ w21 ⟨rfl, hb⟩
  have hSw21 : Hid (RowKit.Below v6.heap.size v6 w21) := hS.out.trans (hb.mono hS.out.size)
  clear hb
  replace hS := hSw21
  refine hK.out _ _ ?_ (fun hHeld => ?_)
  · exact hS
  clear hK K
  try simp only [Act.put, List.setIfInBounds_toArray, List.set_cons_zero, List.set_cons_succ]
  refine tk22 (v := (.bool true)) (by kernel_rfl) (by kernel_rfl) (by kernel_rfl) (fun _ _ _ h => h) (Or.inl ⟨by kernel_rfl, ?_⟩) hS ?_
  · intro w' hSw
    go_simp; try with_reducible rfl
  simp only [Act.put, List.setIfInBounds_toArray, List.set_cons_zero, List.set_cons_succ]
  refine tk23 (v := (.bool true)) (by kernel_rfl) (by kernel_rfl) (by kernel_rfl) (fun _ _ _ h => h) (Or.inl ⟨by kernel_rfl, ?_⟩) hS ?_
  · intro w' hSw
    go_simp; try with_reducible rfl
  simp only [Act.put, List.setIfInBounds_toArray, List.set_cons_zero, List.set_cons_succ]
  refine tk24 (v := .slice (some ⟨g4, 0, none⟩) 1 c4) (by kernel_rfl) (by kernel_rfl) (by kernel_rfl) (fun _ _ _ h => h) (Or.inl ⟨by kernel_rfl, ?_⟩) hS ?_
  · intro w' hSw
    go_simp; try with_reducible rfl
  simp only [Act.put, List.setIfInBounds_toArray, List.set_cons_zero, List.set_cons_succ]
  refine tk25 (v := .agg #[.int .i64 15, .int .i64 10]) (by kernel_rfl) (by kernel_rfl) (by kernel_rfl) (fun _ _ _ h => h) (Or.inl ⟨by kernel_rfl, ?_⟩) hS ?_
  · intro w' hSw
    go_simp; try with_reducible rfl
  simp only [Act.put, List.setIfInBounds_toArray, List.set_cons_zero, List.set_cons_succ]
  refine wpAnyH_ready (rs := [26]) (by kernel_rfl) (by simp) (st26 (fun K hK => ?_) AllReadyH.nil)
  go_simp
  have ba := (Below.refl w21.heap.size w21).alloc (Nat.le_refl _) (.cells #[.int .i64 15, .int .i64 10] 49)
  have A27 := Lib.hid (At2.new w21 (.int .i64 15) (.int .i64 10) 49)
  have hS2 : Hid (RowKit.Below v6.heap.size v6 (w21.alloc (.cells #[.int .i64 15, .int .i64 10] 49))) := hS.out.trans (ba.mono hS.out.size)
  clear ba
  replace hS := hS2
  refine hK.out _ _ ?_ (fun hHeld => ?_)
  · exact hS
  clear hK K
  try simp only [Act.put, List.setIfInBounds_toArray, List.set_cons_zero, List.set_cons_succ]
  have RG27 := G414.out.bel (by simp [gV]) hS.out
  refine wpAnyH_ready (rs := [27]) (by kernel_rfl) (by simp) (st27 (fun K hK => ?_) AllReadyH.nil)
  refine (if_pos (by kernel_rfl)).mpr ?_
  refine wp_callv rfl (by rfl) ?_
  refine (sameDiags_any 1 (fun j => if j = 0 then 15 else 10) g4 w21.heap.size c4 1 _ _ _ (fun _ => rfl) (fun _ => rfl) (fun j hj => by
    match j, hj with
    | 0, _ => exact (RG27 0 _ rfl).trans (by rw [of3]; rfl)
    | 1, _ => exact RG27 1 _ rfl) (fun j hj => by
    match j, hj with
    | 0, _ => exact A27.out.c0
    | 1, _ => exact A27.out.c1) (by decide)).mono ?_
  rintro _ w27 ⟨rfl, hb⟩
  have hSw27 : Hid (RowKit.Below v6.heap.size v6 w27) := hS.out.trans (hb.mono hS.out.size)
  clear hb
  replace hS := hSw27
  refine hK.out _ _ ?_ (fun hHeld => ?_)
  · exact hS
  clear hK K
  try simp only [Act.put, List.setIfInBounds_toArray, List.set_cons_zero, List.set_cons_succ]
  refine tk28 (v := (.bool true)) (by kernel_rfl) (by kernel_rfl) (by kernel_rfl) (fun _ _ _ h => h) (Or.inl ⟨by kernel_rfl, ?_⟩) hS ?_
  · intro w' hSw
    go_simp; try with_reducible rfl
  simp only [Act.put, List.setIfInBounds_toArray, List.set_cons_zero, List.set_cons_succ]
  refine tk29 (v := (.bool true)) (by kernel_rfl) (by kernel_rfl) (by kernel_rfl) (fun _ _ _ h => h) (Or.inl ⟨by kernel_rfl, ?_⟩) hS ?_
  · intro w' hSw
    go_simp; try with_reducible rfl
  simp only [Act.put, List.setIfInBounds_toArray, List.set_cons_zero]
  refine wpAnyH_done (by kernel_rfl) ?_ _
  have HBf := Lib.hid (HB14.out.trans (hS.out.mono HB14.out.size))
  go_wp2_with fail
  go_ret
  exact ⟨rfl, HBf.out⟩
end Go.Proofs.YtedbpjcglnkjmaaGreatDoor
