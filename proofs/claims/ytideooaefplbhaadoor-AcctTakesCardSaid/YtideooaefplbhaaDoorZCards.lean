/-
  DERIVED. GIVEN WITH THE SEED: THE CARDS: each row of YtideooaefplbhaaDoorRows.lean that lists a variable, with what it lists TIED to the program's text (the seventh form; the later family's looks); each row that meets fmt, with fmt's text TOLD by the authors' own Lean function (tested against real Go, not proved from fmt's source: count such statements apart). THE CARD IS WHAT COUNTS. Prove the row's statement (the work); the ties are given (YtideooaefplbhaaDoorTie.lean); close each card by the builder's one call (the guide's Derived/Test/ToyasCard.lean, 'card_holds'). Laid BY PROGRAM, IN A SANDBOX (cutbox-door.mjs). By AI agents, Wed Nov 11 2026. No macro, syntax, notation, axiom, sorry.
-/
import Derived.Test.YtideooaefplbhaaDoorRows
import GoSem.ClaimSeven
namespace Go.Proofs.YtideooaefplbhaaDoor
namespace Rows

/-- THE TIED CARD OF 'bondstorelaw09.AcctChecks'. -/
def acctChecksCard : Claim7 := { stood := { row := acctChecksRow, standIns := [], harness := (true, "94ff130a487c9c266854d72bde8370789bae54da38d224df2898c77339e9cf45"), looks := false }, kinds := [], alts := [], laidByText := true, laidKinds := [.data], laidTests := true, laidLooks := .later }
def AcctChecksCardSaid : Prop := Claim7.holds Tryd.pinned (.plain (OpenSpec.ofChange acctChecksSpec)) acctChecksCard

/-- THE TIED CARD OF 'bondstorelaw09.AcctAgain'. -/
def acctAgainCard : Claim7 := { stood := { row := acctAgainRow, standIns := [], harness := (true, "94ff130a487c9c266854d72bde8370789bae54da38d224df2898c77339e9cf45"), looks := false }, kinds := [], alts := [], laidByText := true, laidKinds := [.data], laidTests := true, laidLooks := .later }
def AcctAgainCardSaid : Prop := Claim7.holds Tryd.pinned (.plain (OpenSpec.ofChange acctAgainSpec)) acctAgainCard

/-- THE TIED CARD OF 'bondstorelaw09.AcctBytes'. -/
def acctBytesCard : Claim7 := { stood := { row := acctBytesRow, standIns := [], harness := (true, "94ff130a487c9c266854d72bde8370789bae54da38d224df2898c77339e9cf45"), looks := false }, kinds := [], alts := [], laidByText := true, laidKinds := [.data], laidTests := true, laidLooks := .later }
def AcctBytesCardSaid : Prop := Claim7.holds Tryd.pinned (.plain (OpenSpec.ofChange acctBytesSpec)) acctBytesCard

/-- THE TIED CARD OF 'bondstorelaw09.AcctTakes'. -/
def acctTakesCard : Claim7 := { stood := { row := acctTakesRow, standIns := [], harness := (true, "94ff130a487c9c266854d72bde8370789bae54da38d224df2898c77339e9cf45"), looks := false }, kinds := [], alts := [], laidByText := true, laidKinds := [.data], laidTests := true, laidLooks := .later }
def AcctTakesCardSaid : Prop := Claim7.holds Tryd.pinned (.plain (OpenSpec.ofChange acctTakesSpec)) acctTakesCard

/-- THE TIED CARD OF 'bondstorelaw09.AcctSame'. -/
def acctSameCard : Claim7 := { stood := { row := acctSameRow, standIns := [], harness := (true, "94ff130a487c9c266854d72bde8370789bae54da38d224df2898c77339e9cf45"), looks := false }, kinds := [], alts := [], laidByText := true, laidKinds := [.data], laidTests := true, laidLooks := .later }
def AcctSameCardSaid : Prop := Claim7.holds Tryd.pinned (.plain (OpenSpec.ofChange acctSameSpec)) acctSameCard

end Rows
end Go.Proofs.YtideooaefplbhaaDoor
