/-
  DERIVED. GIVEN WITH THE SEED: THE CARDS: each row of YtbjabpodkaokjaaDoorRows.lean that lists a variable, with what it lists TIED to the program's text (the seventh form; the later family's looks); each row that meets fmt, with fmt's text TOLD by the authors' own Lean function (tested against real Go, not proved from fmt's source: count such statements apart). THE CARD IS WHAT COUNTS. Prove the row's statement (the work); the ties are given (YtbjabpodkaokjaaDoorTie.lean); close each card by the builder's one call (the guide's Derived/Test/ToyasCard.lean, 'card_holds'). Laid BY PROGRAM, IN A SANDBOX (cutbox-door.mjs). By AI agents, Wed Nov 11 2026. No macro, syntax, notation, axiom, sorry.
-/
import Derived.Test.YtbjabpodkaokjaaDoorRows
import GoSem.ClaimSeven
namespace Go.Proofs.YtbjabpodkaokjaaDoor
namespace Rows

/-- THE TIED CARD OF 'hasplaw.Parses'. -/
def parsesCard : Claim7 := { stood := { row := parsesRow, standIns := [], harness := (true, "a8d85e0cdccab02b427021f84806036c64dbad247cd69fc5658008f1b16c5559"), looks := false }, kinds := [], alts := [], laidByText := true, laidKinds := [.data, .data, .data, .data, .data, .data], laidTests := true, laidLooks := .later }
def ParsesCardSaid : Prop := Claim7.holds Tryd.pinned (.plain (OpenSpec.ofChange parsesSpec)) parsesCard

/-- THE SECOND FORM's CARD OF 'hasplaw.Parses'. -/
def parsesUptoCard : Claim7 := { stood := { row := parsesUptoRow, standIns := [], harness := (true, "a8d85e0cdccab02b427021f84806036c64dbad247cd69fc5658008f1b16c5559"), looks := false }, kinds := [], alts := [], laidByText := true, laidKinds := [.data, .data, .data, .data, .data, .data], laidTests := true, laidLooks := .later }
def ParsesUptoCardSaid : Prop := Claim7.holds Tryd.pinned (.plain (OpenSpec.upto parsesSpec)) parsesUptoCard
end Rows
end Go.Proofs.YtbjabpodkaokjaaDoor
