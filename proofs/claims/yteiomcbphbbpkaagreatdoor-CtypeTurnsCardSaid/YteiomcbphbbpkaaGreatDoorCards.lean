/-
  DERIVED. GIVEN WITH THE SEED: THE CARDS: each row of YteiomcbphbbpkaaGreatDoorRows.lean that lists a variable, with what it lists TIED to the program's text (the seventh form; the later family's looks); each row that meets fmt, with fmt's text TOLD by the authors' own Lean function (tested against real Go, not proved from fmt's source: count such statements apart). THE CARD IS WHAT COUNTS. Prove the row's statement (the work); the ties are given (YteiomcbphbbpkaaGreatDoorTie.lean); close each card by the builder's one call (the guide's Derived/Test/ToyasCard.lean, 'card_holds'). Laid BY PROGRAM, IN A SANDBOX (cutbox-door.mjs). By AI agents, Wed Nov 11 2026. No macro, syntax, notation, axiom, sorry.
-/
import Derived.Test.YteiomcbphbbpkaaGreatDoorRows
import GoSem.ClaimSeven
namespace Go.Proofs.YteiomcbphbbpkaaGreatDoor
namespace Rows

/-- THE TIED CARD OF 'alembiclaw05.CtypeTurns'. -/
def ctypeTurnsCard : Claim7 := { stood := { row := ctypeTurnsRow, standIns := [], harness := (true, "af44b2947d7ebed4e71ca8460d1be5fb25966a58f0b4fb9716de565cd4e0e997"), looks := true }, kinds := [], alts := [], laidByText := true, laidKinds := [.data, .data, .data], laidTests := true, laidLooks := .later }
def CtypeTurnsCardSaid : Prop := Claim7.holds Tryz.pinned (.plain (OpenSpec.ofChange ctypeTurnsSpec)) ctypeTurnsCard

/-- THE SECOND FORM's CARD OF 'alembiclaw05.CtypeTurns'. -/
def ctypeTurnsUptoCard : Claim7 := { stood := { row := ctypeTurnsUptoRow, standIns := [], harness := (true, "af44b2947d7ebed4e71ca8460d1be5fb25966a58f0b4fb9716de565cd4e0e997"), looks := true }, kinds := [], alts := [], laidByText := true, laidKinds := [.data, .data, .data], laidTests := true, laidLooks := .later }
def CtypeTurnsUptoCardSaid : Prop := Claim7.holds Tryz.pinned (.plain (OpenSpec.upto ctypeTurnsSpec)) ctypeTurnsUptoCard
end Rows
end Go.Proofs.YteiomcbphbbpkaaGreatDoor
