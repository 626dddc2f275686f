/-
  NARROWER THAN 'FOR EVERY INPUT', by the rows' own cells (each row's printed sentence says how): UnitsMatchesReference: loops · UnitsOffsets: loops · UnitsParts: loops · UnitsReplaces: loops · UnitsProducts: loops · UnitsBeginnings: loops · UnitsRight: loops.
  DERIVED. THE GIVEN ROWS OF THIS SEAT. 7 by the template 'for every input the law returns true; each argument reads behind the call as it read before'; 0 by the template 'total and deterministic' (their statements: YtoaonficdkgfiaaTotals.lean).
  GIVEN WITH THE SEED: the statements are not yours to turn. If you find one false, say at which input.
  Laid BY PROGRAM, IN A SANDBOX (cutbox-rows.mjs): the forced cells as the released guide's own fill.sh prints them over the translation 122b8fed29297fb3… (all of the seat's roots in one cut). By AI agents, Wed Nov 11 2026. No macro, syntax, notation, axiom, sorry.
-/
import Derived.Test.YtoaonficdkgfiaaChecked
import GoSem.Claim
import GoSem.ClaimJoined
import GoSem.ClaimMapViews
import Derived.JoinedTies
import Derived.KernelRfl
namespace Go.Proofs.Ytoaonficdkgfiaa
/- THE CELL 'sum', in the pinned program and in every row, IS THE sha256 OF THE DUMP (.gsa) THAT YtoaonficdkgfiaaProg.lean LOADS. Nothing in Lean hashes anything: it is a label: what it is worth is what the hold of that sum in a sandbox is worth. -/
noncomputable def Try.pinned : Pinned := { name := "ytoaonficdkgfiaa", sum := "122b8fed29297fb3a6f78f53ceddc14a3110a136f7c6caa72d0d39003c245c75", checked := Try.checked }
namespace Rows
def none {H : Type} : Left H := { results := [], args := [] }

/-- 'cohousinglaw11.UnitsMatchesReference': WHATEVER THE INPUT: true; the input reads as it did. -/
def unitsMatchesReferenceSpec : ChangeSpec := { name := "unitsMatchesReference", fn := fun _ => fun
  | [d1, d2] => { results := [.lit (.bool true)], args := [d1, d2] }
  | _ => none }
def unitsMatchesReferenceRow : OpenClaim := { program := "ytoaonficdkgfiaa", sum := "122b8fed29297fb3a6f78f53ceddc14a3110a136f7c6caa72d0d39003c245c75", func := "cohousing/cohousinglaw11.UnitsMatchesReference", spec := "unitsMatchesReference", unfollowed := true, recurses := true, loops := true, apart := false }
def UnitsMatchesReferenceSaid : Prop := unitsMatchesReferenceRow.holds Try.pinned (OpenSpec.ofChange unitsMatchesReferenceSpec)

/-- ITS FALSE NEIGHBOUR: 'it returns false'. Refute it at one input. -/
def unitsMatchesReferenceWrong : ChangeSpec := { name := "unitsMatchesReference", fn := fun _ => fun
  | [d1, d2] => { results := [.lit (.bool false)], args := [d1, d2] }
  | _ => none }
def UnitsMatchesReferenceWrongFalsely : Prop := unitsMatchesReferenceRow.holds Try.pinned (OpenSpec.ofChange unitsMatchesReferenceWrong)

/-- 'cohousinglaw11.UnitsOffsets': WHATEVER THE INPUT: true; the input reads as it did. -/
def unitsOffsetsSpec : ChangeSpec := { name := "unitsOffsets", fn := fun _ => fun
  | [d1, d2, d3] => { results := [.lit (.bool true)], args := [d1, d2, d3] }
  | _ => none }
def unitsOffsetsRow : OpenClaim := { program := "ytoaonficdkgfiaa", sum := "122b8fed29297fb3a6f78f53ceddc14a3110a136f7c6caa72d0d39003c245c75", func := "cohousing/cohousinglaw11.UnitsOffsets", spec := "unitsOffsets", unfollowed := true, recurses := true, loops := true, apart := false }
def UnitsOffsetsSaid : Prop := unitsOffsetsRow.holds Try.pinned (OpenSpec.ofChange unitsOffsetsSpec)

/-- ITS FALSE NEIGHBOUR: 'it returns false'. Refute it at one input. -/
def unitsOffsetsWrong : ChangeSpec := { name := "unitsOffsets", fn := fun _ => fun
  | [d1, d2, d3] => { results := [.lit (.bool false)], args := [d1, d2, d3] }
  | _ => none }
def UnitsOffsetsWrongFalsely : Prop := unitsOffsetsRow.holds Try.pinned (OpenSpec.ofChange unitsOffsetsWrong)

/-- 'cohousinglaw11.UnitsParts': WHATEVER THE INPUT: true; the input reads as it did. -/
def unitsPartsSpec : ChangeSpec := { name := "unitsParts", fn := fun _ => fun
  | [d1, d2] => { results := [.lit (.bool true)], args := [d1, d2] }
  | _ => none }
def unitsPartsRow : OpenClaim := { program := "ytoaonficdkgfiaa", sum := "122b8fed29297fb3a6f78f53ceddc14a3110a136f7c6caa72d0d39003c245c75", func := "cohousing/cohousinglaw11.UnitsParts", spec := "unitsParts", unfollowed := true, recurses := true, loops := true, apart := false }
def UnitsPartsSaid : Prop := unitsPartsRow.holds Try.pinned (OpenSpec.ofChange unitsPartsSpec)

/-- ITS FALSE NEIGHBOUR: 'it returns false'. Refute it at one input. -/
def unitsPartsWrong : ChangeSpec := { name := "unitsParts", fn := fun _ => fun
  | [d1, d2] => { results := [.lit (.bool false)], args := [d1, d2] }
  | _ => none }
def UnitsPartsWrongFalsely : Prop := unitsPartsRow.holds Try.pinned (OpenSpec.ofChange unitsPartsWrong)

/-- 'cohousinglaw11.UnitsReplaces': WHATEVER THE INPUT: true; the input reads as it did. -/
def unitsReplacesSpec : ChangeSpec := { name := "unitsReplaces", fn := fun _ => fun
  | [d1, d2, d3, d4] => { results := [.lit (.bool true)], args := [d1, d2, d3, d4] }
  | _ => none }
def unitsReplacesRow : OpenClaim := { program := "ytoaonficdkgfiaa", sum := "122b8fed29297fb3a6f78f53ceddc14a3110a136f7c6caa72d0d39003c245c75", func := "cohousing/cohousinglaw11.UnitsReplaces", spec := "unitsReplaces", unfollowed := true, recurses := true, loops := true, apart := false }
def UnitsReplacesSaid : Prop := unitsReplacesRow.holds Try.pinned (OpenSpec.ofChange unitsReplacesSpec)

/-- ITS FALSE NEIGHBOUR: 'it returns false'. Refute it at one input. -/
def unitsReplacesWrong : ChangeSpec := { name := "unitsReplaces", fn := fun _ => fun
  | [d1, d2, d3, d4] => { results := [.lit (.bool false)], args := [d1, d2, d3, d4] }
  | _ => none }
def UnitsReplacesWrongFalsely : Prop := unitsReplacesRow.holds Try.pinned (OpenSpec.ofChange unitsReplacesWrong)

/-- 'cohousinglaw11.UnitsProducts': WHATEVER THE INPUT: true; the input reads as it did. -/
def unitsProductsSpec : ChangeSpec := { name := "unitsProducts", fn := fun _ => fun
  | [d1, d2, d3] => { results := [.lit (.bool true)], args := [d1, d2, d3] }
  | _ => none }
def unitsProductsRow : OpenClaim := { program := "ytoaonficdkgfiaa", sum := "122b8fed29297fb3a6f78f53ceddc14a3110a136f7c6caa72d0d39003c245c75", func := "cohousing/cohousinglaw11.UnitsProducts", spec := "unitsProducts", unfollowed := true, recurses := true, loops := true, apart := false }
def UnitsProductsSaid : Prop := unitsProductsRow.holds Try.pinned (OpenSpec.ofChange unitsProductsSpec)

/-- ITS FALSE NEIGHBOUR: 'it returns false'. Refute it at one input. -/
def unitsProductsWrong : ChangeSpec := { name := "unitsProducts", fn := fun _ => fun
  | [d1, d2, d3] => { results := [.lit (.bool false)], args := [d1, d2, d3] }
  | _ => none }
def UnitsProductsWrongFalsely : Prop := unitsProductsRow.holds Try.pinned (OpenSpec.ofChange unitsProductsWrong)

/-- 'cohousinglaw11.UnitsBeginnings': WHATEVER THE INPUT: true; the input reads as it did. -/
def unitsBeginningsSpec : ChangeSpec := { name := "unitsBeginnings", fn := fun _ => fun
  | [d] => { results := [.lit (.bool true)], args := [d] }
  | _ => none }
def unitsBeginningsRow : OpenClaim := { program := "ytoaonficdkgfiaa", sum := "122b8fed29297fb3a6f78f53ceddc14a3110a136f7c6caa72d0d39003c245c75", func := "cohousing/cohousinglaw11.UnitsBeginnings", spec := "unitsBeginnings", unfollowed := true, recurses := true, loops := true, apart := false }
def UnitsBeginningsSaid : Prop := unitsBeginningsRow.holds Try.pinned (OpenSpec.ofChange unitsBeginningsSpec)

/-- ITS FALSE NEIGHBOUR: 'it returns false'. Refute it at one input. -/
def unitsBeginningsWrong : ChangeSpec := { name := "unitsBeginnings", fn := fun _ => fun
  | [d] => { results := [.lit (.bool false)], args := [d] }
  | _ => none }
def UnitsBeginningsWrongFalsely : Prop := unitsBeginningsRow.holds Try.pinned (OpenSpec.ofChange unitsBeginningsWrong)

/-- 'cohousinglaw11.UnitsRight': WHATEVER THE INPUT: true; the input reads as it did. -/
def unitsRightSpec : ChangeSpec := { name := "unitsRight", fn := fun _ => fun
  | [d] => { results := [.lit (.bool true)], args := [d] }
  | _ => none }
def unitsRightRow : OpenClaim := { program := "ytoaonficdkgfiaa", sum := "122b8fed29297fb3a6f78f53ceddc14a3110a136f7c6caa72d0d39003c245c75", func := "cohousing/cohousinglaw11.UnitsRight", spec := "unitsRight", unfollowed := true, recurses := true, loops := true, apart := false }
def UnitsRightSaid : Prop := unitsRightRow.holds Try.pinned (OpenSpec.ofChange unitsRightSpec)

/-- ITS FALSE NEIGHBOUR: 'it returns false'. Refute it at one input. -/
def unitsRightWrong : ChangeSpec := { name := "unitsRight", fn := fun _ => fun
  | [d] => { results := [.lit (.bool false)], args := [d] }
  | _ => none }
def UnitsRightWrongFalsely : Prop := unitsRightRow.holds Try.pinned (OpenSpec.ofChange unitsRightWrong)

/- THE SECOND FORM. 'bulk': how many values and letters a reading holds, each counted each time it is reached (what is shared counts as often as it is met; a slice's spare places count too). A statement '..UptoSaid' is the law's where the arguments, and the package variables that the reading takes, are together of bulk at most 1048576: NARROWER than '..Said'. Prove '..Said' where nothing that the law and all that it calls make is longer than what came in: it says more and counts as full. Else prove '..UptoSaid'. A law counts once. -/
mutual
def uptoBulk {H : Type} : DataW H → Nat
  | .lit (.string bytes) => bytes.length + 1
  | .lit _ => 1
  | .nil => 1
  | .ptr d => uptoBulk d + 1
  | .slice elems spare => uptoBulkAll elems + uptoBulkAll spare + 1
  | .agg parts => uptoBulkAll parts + 1
  | .iface _ d => uptoBulk d + 1
  | .map entries => uptoBulkEntries entries + 1
  | .held _ => 1
def uptoBulkAll {H : Type} : List (DataW H) → Nat
  | [] => 0
  | d :: r => uptoBulk d + uptoBulkAll r
def uptoBulkEntries {H : Type} : List (Lit × DataW H) → Nat
  | [] => 0
  | x :: r => uptoBulkEntry x + uptoBulkEntries r
def uptoBulkEntry {H : Type} : Lit × DataW H → Nat
  | (.string bytes, d) => bytes.length + uptoBulk d + 1
  | (_, d) => uptoBulk d + 1
 end
def uptoSmall : (H : Type) → List (DataW H) → Bool := fun _ ds => decide (uptoBulkAll ds ≤ 1048576)
def OpenSpec.upto (s : _root_.Go.ChangeSpec) : _root_.Go.OpenSpec := { _root_.Go.OpenSpec.ofChange s with cond := some uptoSmall }

/-- 'cohousinglaw11.UnitsMatchesReference', WHERE WHAT IT READS IS OF BULK AT MOST 1048576: true; the input reads as it did. -/
def unitsMatchesReferenceUptoRow : OpenClaim := { program := "ytoaonficdkgfiaa", sum := "122b8fed29297fb3a6f78f53ceddc14a3110a136f7c6caa72d0d39003c245c75", func := "cohousing/cohousinglaw11.UnitsMatchesReference", spec := "unitsMatchesReference", unfollowed := true, recurses := true, loops := true, apart := false, narrowed := true }
def UnitsMatchesReferenceUptoSaid : Prop := unitsMatchesReferenceUptoRow.holds Try.pinned (OpenSpec.upto unitsMatchesReferenceSpec)

/-- 'cohousinglaw11.UnitsOffsets', WHERE WHAT IT READS IS OF BULK AT MOST 1048576: true; the input reads as it did. -/
def unitsOffsetsUptoRow : OpenClaim := { program := "ytoaonficdkgfiaa", sum := "122b8fed29297fb3a6f78f53ceddc14a3110a136f7c6caa72d0d39003c245c75", func := "cohousing/cohousinglaw11.UnitsOffsets", spec := "unitsOffsets", unfollowed := true, recurses := true, loops := true, apart := false, narrowed := true }
def UnitsOffsetsUptoSaid : Prop := unitsOffsetsUptoRow.holds Try.pinned (OpenSpec.upto unitsOffsetsSpec)

/-- 'cohousinglaw11.UnitsParts', WHERE WHAT IT READS IS OF BULK AT MOST 1048576: true; the input reads as it did. -/
def unitsPartsUptoRow : OpenClaim := { program := "ytoaonficdkgfiaa", sum := "122b8fed29297fb3a6f78f53ceddc14a3110a136f7c6caa72d0d39003c245c75", func := "cohousing/cohousinglaw11.UnitsParts", spec := "unitsParts", unfollowed := true, recurses := true, loops := true, apart := false, narrowed := true }
def UnitsPartsUptoSaid : Prop := unitsPartsUptoRow.holds Try.pinned (OpenSpec.upto unitsPartsSpec)

/-- 'cohousinglaw11.UnitsReplaces', WHERE WHAT IT READS IS OF BULK AT MOST 1048576: true; the input reads as it did. -/
def unitsReplacesUptoRow : OpenClaim := { program := "ytoaonficdkgfiaa", sum := "122b8fed29297fb3a6f78f53ceddc14a3110a136f7c6caa72d0d39003c245c75", func := "cohousing/cohousinglaw11.UnitsReplaces", spec := "unitsReplaces", unfollowed := true, recurses := true, loops := true, apart := false, narrowed := true }
def UnitsReplacesUptoSaid : Prop := unitsReplacesUptoRow.holds Try.pinned (OpenSpec.upto unitsReplacesSpec)

/-- 'cohousinglaw11.UnitsProducts', WHERE WHAT IT READS IS OF BULK AT MOST 1048576: true; the input reads as it did. -/
def unitsProductsUptoRow : OpenClaim := { program := "ytoaonficdkgfiaa", sum := "122b8fed29297fb3a6f78f53ceddc14a3110a136f7c6caa72d0d39003c245c75", func := "cohousing/cohousinglaw11.UnitsProducts", spec := "unitsProducts", unfollowed := true, recurses := true, loops := true, apart := false, narrowed := true }
def UnitsProductsUptoSaid : Prop := unitsProductsUptoRow.holds Try.pinned (OpenSpec.upto unitsProductsSpec)

/-- 'cohousinglaw11.UnitsBeginnings', WHERE WHAT IT READS IS OF BULK AT MOST 1048576: true; the input reads as it did. -/
def unitsBeginningsUptoRow : OpenClaim := { program := "ytoaonficdkgfiaa", sum := "122b8fed29297fb3a6f78f53ceddc14a3110a136f7c6caa72d0d39003c245c75", func := "cohousing/cohousinglaw11.UnitsBeginnings", spec := "unitsBeginnings", unfollowed := true, recurses := true, loops := true, apart := false, narrowed := true }
def UnitsBeginningsUptoSaid : Prop := unitsBeginningsUptoRow.holds Try.pinned (OpenSpec.upto unitsBeginningsSpec)

/-- 'cohousinglaw11.UnitsRight', WHERE WHAT IT READS IS OF BULK AT MOST 1048576: true; the input reads as it did. -/
def unitsRightUptoRow : OpenClaim := { program := "ytoaonficdkgfiaa", sum := "122b8fed29297fb3a6f78f53ceddc14a3110a136f7c6caa72d0d39003c245c75", func := "cohousing/cohousinglaw11.UnitsRight", spec := "unitsRight", unfollowed := true, recurses := true, loops := true, apart := false, narrowed := true }
def UnitsRightUptoSaid : Prop := unitsRightUptoRow.holds Try.pinned (OpenSpec.upto unitsRightSpec)

end Rows
end Go.Proofs.Ytoaonficdkgfiaa
