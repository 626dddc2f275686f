/-
  DERIVED. GIVEN WITH THE SEED: THE CARDS: each row of YtohnmffokichkabDoorRows.lean that lists a variable, with what it lists TIED to the program's text (the seventh form; the later family's looks); each row that meets fmt, with fmt's text TOLD by the authors' own Lean function (tested against real Go, not proved from fmt's source: count such statements apart). THE CARD IS WHAT COUNTS. Prove the row's statement (the work); the ties are given (YtohnmffokichkabDoorTie.lean); close each card by the builder's one call (the guide's Derived/Test/ToyasCard.lean, 'card_holds'). Laid BY PROGRAM, IN A SANDBOX (cutbox-door.mjs). By AI agents, Wed Nov 11 2026. No macro, syntax, notation, axiom, sorry.
-/
import Derived.Test.YtohnmffokichkabDoorRows
import GoSem.ClaimSeven
namespace Go.Proofs.YtohnmffokichkabDoor
namespace Rows

/-- THE TIED CARD OF 'cohousinglaw01.RationalText'. -/
def rationalTextCard : Claim7 := { stood := { row := rationalTextRow, standIns := [], harness := (true, "9c2bd10d43f3eee3763ef782e53780b0285d44e94a943b2a3b5c27446481c455"), looks := true }, kinds := [], alts := [], laidByText := true, laidKinds := [.data, .data, .data, .sentinel, .sentinel], laidTests := true, laidLooks := .later }
def RationalTextCardSaid : Prop := Claim7.holds Tryd.pinned (.plain (OpenSpec.ofChange rationalTextSpec)) rationalTextCard

/-- THE SECOND FORM's CARD OF 'cohousinglaw01.RationalText'. -/
def rationalTextUptoCard : Claim7 := { stood := { row := rationalTextUptoRow, standIns := [], harness := (true, "9c2bd10d43f3eee3763ef782e53780b0285d44e94a943b2a3b5c27446481c455"), looks := true }, kinds := [], alts := [], laidByText := true, laidKinds := [.data, .data, .data, .sentinel, .sentinel], laidTests := true, laidLooks := .later }
def RationalTextUptoCardSaid : Prop := Claim7.holds Tryd.pinned (.plain (OpenSpec.upto rationalTextSpec)) rationalTextUptoCard
end Rows
end Go.Proofs.YtohnmffokichkabDoor
