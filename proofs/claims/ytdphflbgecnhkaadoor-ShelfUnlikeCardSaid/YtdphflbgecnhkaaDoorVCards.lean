/-
  DERIVED. GIVEN WITH THE SEED: THE CARDS: each row of YtdphflbgecnhkaaDoorRows.lean that lists a variable, with what it lists TIED to the program's text (the seventh form; the later family's looks); each row that meets fmt, with fmt's text TOLD by the authors' own Lean function (tested against real Go, not proved from fmt's source: count such statements apart). THE CARD IS WHAT COUNTS. Prove the row's statement (the work); the ties are given (YtdphflbgecnhkaaDoorTie.lean); close each card by the builder's one call (the guide's Derived/Test/ToyasCard.lean, 'card_holds'). Laid BY PROGRAM, IN A SANDBOX (cutbox-door.mjs). By AI agents, Wed Nov 11 2026. No macro, syntax, notation, axiom, sorry.
-/
import Derived.Test.YtdphflbgecnhkaaDoorRows
import GoSem.ClaimSeven
namespace Go.Proofs.YtdphflbgecnhkaaDoor
namespace Rows

/-- THE TIED CARD OF 'bondstorelaw26.ShelfUnlike'. -/
def shelfUnlikeCard : Claim7 := { stood := { row := shelfUnlikeRow, standIns := [], harness := (true, "99f1f0071fed9b819c9df24ad3aa655ee4e0b82f6b9fc112d7f7ddd3252bbd84"), looks := false }, kinds := [], alts := [], laidByText := true, laidKinds := [.data], laidTests := true, laidLooks := .later }
def ShelfUnlikeCardSaid : Prop := Claim7.holds Tryd.pinned (.plain (OpenSpec.ofChange shelfUnlikeSpec)) shelfUnlikeCard

end Rows
end Go.Proofs.YtdphflbgecnhkaaDoor
