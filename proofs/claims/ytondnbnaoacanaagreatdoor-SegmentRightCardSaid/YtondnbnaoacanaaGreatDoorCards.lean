/-
  DERIVED. GIVEN WITH THE SEED: THE CARDS: each row of YtondnbnaoacanaaGreatDoorRows.lean that lists a variable, with what it lists TIED to the program's text (the seventh form; the later family's looks); each row that meets fmt, with fmt's text TOLD by the authors' own Lean function (tested against real Go, not proved from fmt's source: count such statements apart). THE CARD IS WHAT COUNTS. Prove the row's statement (the work); the ties are given (YtondnbnaoacanaaGreatDoorTie.lean); close each card by the builder's one call (the guide's Derived/Test/ToyasCard.lean, 'card_holds'). Laid BY PROGRAM, IN A SANDBOX (cutbox-door.mjs). By AI agents, Wed Nov 11 2026. No macro, syntax, notation, axiom, sorry.
-/
import Derived.Test.YtondnbnaoacanaaGreatDoorRows
import GoSem.ClaimSeven
namespace Go.Proofs.YtondnbnaoacanaaGreatDoor
namespace Rows

/-- THE TIED CARD OF 'fuseboxlaw09.SegmentRight'. -/
def segmentRightCard : Claim7 := { stood := { row := segmentRightRow, standIns := [], harness := (true, "24fed1298a48951c6602f4a596e3bd5b65d3c0b88b5efd5a2b2e8dd43614a346"), looks := false }, kinds := [], alts := [], laidByText := true, laidKinds := [.data, .data, .data], laidTests := true, laidLooks := .later }
def SegmentRightCardSaid : Prop := Claim7.holds Tryz.pinned (.plain (OpenSpec.ofChange segmentRightSpec)) segmentRightCard

/-- THE SECOND FORM's CARD OF 'fuseboxlaw09.SegmentRight'. -/
def segmentRightUptoCard : Claim7 := { stood := { row := segmentRightUptoRow, standIns := [], harness := (true, "24fed1298a48951c6602f4a596e3bd5b65d3c0b88b5efd5a2b2e8dd43614a346"), looks := false }, kinds := [], alts := [], laidByText := true, laidKinds := [.data, .data, .data], laidTests := true, laidLooks := .later }
def SegmentRightUptoCardSaid : Prop := Claim7.holds Tryz.pinned (.plain (OpenSpec.upto segmentRightSpec)) segmentRightUptoCard
end Rows
end Go.Proofs.YtondnbnaoacanaaGreatDoor
