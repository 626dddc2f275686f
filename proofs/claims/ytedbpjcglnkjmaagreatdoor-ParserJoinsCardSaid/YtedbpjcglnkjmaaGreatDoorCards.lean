/-
  DERIVED. GIVEN WITH THE SEED: THE CARDS: each row of YtedbpjcglnkjmaaGreatDoorRows.lean that lists a variable, with what it lists TIED to the program's text (the seventh form; the later family's looks); each row that meets fmt, with fmt's text TOLD by the authors' own Lean function (tested against real Go, not proved from fmt's source: count such statements apart). THE CARD IS WHAT COUNTS. Prove the row's statement (the work); the ties are given (YtedbpjcglnkjmaaGreatDoorTie.lean); close each card by the builder's one call (the guide's Derived/Test/ToyasCard.lean, 'card_holds'). Laid BY PROGRAM, IN A SANDBOX (cutbox-door.mjs). By AI agents, Wed Nov 11 2026. No macro, syntax, notation, axiom, sorry.
-/
import Derived.Test.YtedbpjcglnkjmaaGreatDoorRows
import GoSem.ClaimSeven
namespace Go.Proofs.YtedbpjcglnkjmaaGreatDoor
namespace Rows

/-- THE TIED CARD OF 'cohousinglaw09.ParserMatchesReference'. -/
def parserMatchesReferenceCard : Claim7 := { stood := { row := parserMatchesReferenceRow, standIns := [], harness := (true, "17a458bc4211148b92b11d284d4306e9f7d4524c670ba0e3f5e19719535f5fab"), looks := true }, kinds := [], alts := [], laidByText := true, laidKinds := [.data, .data, .data, .sentinel, .sentinel], laidTests := true, laidLooks := .later }
def ParserMatchesReferenceCardSaid : Prop := Claim7.holds Tryz.pinned (.plain (OpenSpec.ofChange parserMatchesReferenceSpec)) parserMatchesReferenceCard

/-- THE TIED CARD OF 'cohousinglaw09.ParserBlanks'. -/
def parserBlanksCard : Claim7 := { stood := { row := parserBlanksRow, standIns := [], harness := (true, "17a458bc4211148b92b11d284d4306e9f7d4524c670ba0e3f5e19719535f5fab"), looks := true }, kinds := [], alts := [], laidByText := true, laidKinds := [.data, .data, .data, .sentinel, .sentinel], laidTests := true, laidLooks := .later }
def ParserBlanksCardSaid : Prop := Claim7.holds Tryz.pinned (.plain (OpenSpec.ofChange parserBlanksSpec)) parserBlanksCard

/-- THE TIED CARD OF 'cohousinglaw09.ParserJoins'. -/
def parserJoinsCard : Claim7 := { stood := { row := parserJoinsRow, standIns := [], harness := (true, "17a458bc4211148b92b11d284d4306e9f7d4524c670ba0e3f5e19719535f5fab"), looks := true }, kinds := [], alts := [], laidByText := true, laidKinds := [.data, .data, .data, .sentinel, .sentinel], laidTests := true, laidLooks := .later }
def ParserJoinsCardSaid : Prop := Claim7.holds Tryz.pinned (.plain (OpenSpec.ofChange parserJoinsSpec)) parserJoinsCard

/-- THE TIED CARD OF 'cohousinglaw09.ParserRecovers'. -/
def parserRecoversCard : Claim7 := { stood := { row := parserRecoversRow, standIns := [], harness := (true, "17a458bc4211148b92b11d284d4306e9f7d4524c670ba0e3f5e19719535f5fab"), looks := true }, kinds := [], alts := [], laidByText := true, laidKinds := [.data, .data, .data, .sentinel, .sentinel], laidTests := true, laidLooks := .later }
def ParserRecoversCardSaid : Prop := Claim7.holds Tryz.pinned (.plain (OpenSpec.ofChange parserRecoversSpec)) parserRecoversCard

/-- THE TIED CARD OF 'cohousinglaw09.ParserBrackets'. -/
def parserBracketsCard : Claim7 := { stood := { row := parserBracketsRow, standIns := [], harness := (true, "17a458bc4211148b92b11d284d4306e9f7d4524c670ba0e3f5e19719535f5fab"), looks := true }, kinds := [], alts := [], laidByText := true, laidKinds := [.data, .data, .data, .sentinel, .sentinel], laidTests := true, laidLooks := .later }
def ParserBracketsCardSaid : Prop := Claim7.holds Tryz.pinned (.plain (OpenSpec.ofChange parserBracketsSpec)) parserBracketsCard

/-- THE TIED CARD OF 'cohousinglaw09.ParserOrder'. -/
def parserOrderCard : Claim7 := { stood := { row := parserOrderRow, standIns := [], harness := (true, "17a458bc4211148b92b11d284d4306e9f7d4524c670ba0e3f5e19719535f5fab"), looks := true }, kinds := [], alts := [], laidByText := true, laidKinds := [.data, .data, .data, .sentinel, .sentinel], laidTests := true, laidLooks := .later }
def ParserOrderCardSaid : Prop := Claim7.holds Tryz.pinned (.plain (OpenSpec.ofChange parserOrderSpec)) parserOrderCard

/-- THE TIED CARD OF 'cohousinglaw09.ParserErrors'. -/
def parserErrorsCard : Claim7 := { stood := { row := parserErrorsRow, standIns := [], harness := (true, "17a458bc4211148b92b11d284d4306e9f7d4524c670ba0e3f5e19719535f5fab"), looks := true }, kinds := [], alts := [], laidByText := true, laidKinds := [.data, .data, .data, .sentinel, .sentinel], laidTests := true, laidLooks := .later }
def ParserErrorsCardSaid : Prop := Claim7.holds Tryz.pinned (.plain (OpenSpec.ofChange parserErrorsSpec)) parserErrorsCard

/-- THE SECOND FORM's CARD OF 'cohousinglaw09.ParserMatchesReference'. -/
def parserMatchesReferenceUptoCard : Claim7 := { stood := { row := parserMatchesReferenceUptoRow, standIns := [], harness := (true, "17a458bc4211148b92b11d284d4306e9f7d4524c670ba0e3f5e19719535f5fab"), looks := true }, kinds := [], alts := [], laidByText := true, laidKinds := [.data, .data, .data, .sentinel, .sentinel], laidTests := true, laidLooks := .later }
def ParserMatchesReferenceUptoCardSaid : Prop := Claim7.holds Tryz.pinned (.plain (OpenSpec.upto parserMatchesReferenceSpec)) parserMatchesReferenceUptoCard

/-- THE SECOND FORM's CARD OF 'cohousinglaw09.ParserBlanks'. -/
def parserBlanksUptoCard : Claim7 := { stood := { row := parserBlanksUptoRow, standIns := [], harness := (true, "17a458bc4211148b92b11d284d4306e9f7d4524c670ba0e3f5e19719535f5fab"), looks := true }, kinds := [], alts := [], laidByText := true, laidKinds := [.data, .data, .data, .sentinel, .sentinel], laidTests := true, laidLooks := .later }
def ParserBlanksUptoCardSaid : Prop := Claim7.holds Tryz.pinned (.plain (OpenSpec.upto parserBlanksSpec)) parserBlanksUptoCard

/-- THE SECOND FORM's CARD OF 'cohousinglaw09.ParserJoins'. -/
def parserJoinsUptoCard : Claim7 := { stood := { row := parserJoinsUptoRow, standIns := [], harness := (true, "17a458bc4211148b92b11d284d4306e9f7d4524c670ba0e3f5e19719535f5fab"), looks := true }, kinds := [], alts := [], laidByText := true, laidKinds := [.data, .data, .data, .sentinel, .sentinel], laidTests := true, laidLooks := .later }
def ParserJoinsUptoCardSaid : Prop := Claim7.holds Tryz.pinned (.plain (OpenSpec.upto parserJoinsSpec)) parserJoinsUptoCard

/-- THE SECOND FORM's CARD OF 'cohousinglaw09.ParserRecovers'. -/
def parserRecoversUptoCard : Claim7 := { stood := { row := parserRecoversUptoRow, standIns := [], harness := (true, "17a458bc4211148b92b11d284d4306e9f7d4524c670ba0e3f5e19719535f5fab"), looks := true }, kinds := [], alts := [], laidByText := true, laidKinds := [.data, .data, .data, .sentinel, .sentinel], laidTests := true, laidLooks := .later }
def ParserRecoversUptoCardSaid : Prop := Claim7.holds Tryz.pinned (.plain (OpenSpec.upto parserRecoversSpec)) parserRecoversUptoCard

/-- THE SECOND FORM's CARD OF 'cohousinglaw09.ParserBrackets'. -/
def parserBracketsUptoCard : Claim7 := { stood := { row := parserBracketsUptoRow, standIns := [], harness := (true, "17a458bc4211148b92b11d284d4306e9f7d4524c670ba0e3f5e19719535f5fab"), looks := true }, kinds := [], alts := [], laidByText := true, laidKinds := [.data, .data, .data, .sentinel, .sentinel], laidTests := true, laidLooks := .later }
def ParserBracketsUptoCardSaid : Prop := Claim7.holds Tryz.pinned (.plain (OpenSpec.upto parserBracketsSpec)) parserBracketsUptoCard

/-- THE SECOND FORM's CARD OF 'cohousinglaw09.ParserOrder'. -/
def parserOrderUptoCard : Claim7 := { stood := { row := parserOrderUptoRow, standIns := [], harness := (true, "17a458bc4211148b92b11d284d4306e9f7d4524c670ba0e3f5e19719535f5fab"), looks := true }, kinds := [], alts := [], laidByText := true, laidKinds := [.data, .data, .data, .sentinel, .sentinel], laidTests := true, laidLooks := .later }
def ParserOrderUptoCardSaid : Prop := Claim7.holds Tryz.pinned (.plain (OpenSpec.upto parserOrderSpec)) parserOrderUptoCard

/-- THE SECOND FORM's CARD OF 'cohousinglaw09.ParserErrors'. -/
def parserErrorsUptoCard : Claim7 := { stood := { row := parserErrorsUptoRow, standIns := [], harness := (true, "17a458bc4211148b92b11d284d4306e9f7d4524c670ba0e3f5e19719535f5fab"), looks := true }, kinds := [], alts := [], laidByText := true, laidKinds := [.data, .data, .data, .sentinel, .sentinel], laidTests := true, laidLooks := .later }
def ParserErrorsUptoCardSaid : Prop := Claim7.holds Tryz.pinned (.plain (OpenSpec.upto parserErrorsSpec)) parserErrorsUptoCard
end Rows
end Go.Proofs.YtedbpjcglnkjmaaGreatDoor
