/-
  DERIVED. GIVEN WITH THE SEED: THE CARDS: each row of YtlalkfebedjlgaaDoorRows.lean that lists a variable, with what it lists TIED to the program's text (the seventh form; the later family's looks); each row that meets fmt, with fmt's text TOLD by the authors' own Lean function (tested against real Go, not proved from fmt's source: count such statements apart). THE CARD IS WHAT COUNTS. Prove the row's statement (the work); the ties are given (YtlalkfebedjlgaaDoorTie.lean); close each card by the builder's one call (the guide's Derived/Test/ToyasCard.lean, 'card_holds'). Laid BY PROGRAM, IN A SANDBOX (cutbox-door.mjs). By AI agents, Wed Nov 11 2026. No macro, syntax, notation, axiom, sorry.
-/
import Derived.Test.YtlalkfebedjlgaaDoorRows
import GoSem.ClaimSeven
namespace Go.Proofs.YtlalkfebedjlgaaDoor
namespace Rows

/-- THE TIED CARD OF 'bondstorelaw10.XferChecks'. -/
def xferChecksCard : Claim7 := { stood := { row := xferChecksRow, standIns := [], harness := (true, "11d3c9ca73544750c71da37f0037f679087de9aa4aebb9f07a2a0f461c525e0d"), looks := false }, kinds := [], alts := [], laidByText := true, laidKinds := [.data], laidTests := true, laidLooks := .later }
def XferChecksCardSaid : Prop := Claim7.holds Tryd.pinned (.plain (OpenSpec.ofChange xferChecksSpec)) xferChecksCard

/-- THE TIED CARD OF 'bondstorelaw10.XferKinds'. -/
def xferKindsCard : Claim7 := { stood := { row := xferKindsRow, standIns := [], harness := (true, "11d3c9ca73544750c71da37f0037f679087de9aa4aebb9f07a2a0f461c525e0d"), looks := false }, kinds := [], alts := [], laidByText := true, laidKinds := [.data], laidTests := true, laidLooks := .later }
def XferKindsCardSaid : Prop := Claim7.holds Tryd.pinned (.plain (OpenSpec.ofChange xferKindsSpec)) xferKindsCard

/-- THE TIED CARD OF 'bondstorelaw10.XferAgain'. -/
def xferAgainCard : Claim7 := { stood := { row := xferAgainRow, standIns := [], harness := (true, "11d3c9ca73544750c71da37f0037f679087de9aa4aebb9f07a2a0f461c525e0d"), looks := false }, kinds := [], alts := [], laidByText := true, laidKinds := [.data], laidTests := true, laidLooks := .later }
def XferAgainCardSaid : Prop := Claim7.holds Tryd.pinned (.plain (OpenSpec.ofChange xferAgainSpec)) xferAgainCard

/-- THE TIED CARD OF 'bondstorelaw10.XferBytes'. -/
def xferBytesCard : Claim7 := { stood := { row := xferBytesRow, standIns := [], harness := (true, "11d3c9ca73544750c71da37f0037f679087de9aa4aebb9f07a2a0f461c525e0d"), looks := false }, kinds := [], alts := [], laidByText := true, laidKinds := [.data], laidTests := true, laidLooks := .later }
def XferBytesCardSaid : Prop := Claim7.holds Tryd.pinned (.plain (OpenSpec.ofChange xferBytesSpec)) xferBytesCard

/-- THE TIED CARD OF 'bondstorelaw10.XferTakes'. -/
def xferTakesCard : Claim7 := { stood := { row := xferTakesRow, standIns := [], harness := (true, "11d3c9ca73544750c71da37f0037f679087de9aa4aebb9f07a2a0f461c525e0d"), looks := false }, kinds := [], alts := [], laidByText := true, laidKinds := [.data], laidTests := true, laidLooks := .later }
def XferTakesCardSaid : Prop := Claim7.holds Tryd.pinned (.plain (OpenSpec.ofChange xferTakesSpec)) xferTakesCard

/-- THE TIED CARD OF 'bondstorelaw10.XferSame'. -/
def xferSameCard : Claim7 := { stood := { row := xferSameRow, standIns := [], harness := (true, "11d3c9ca73544750c71da37f0037f679087de9aa4aebb9f07a2a0f461c525e0d"), looks := false }, kinds := [], alts := [], laidByText := true, laidKinds := [.data], laidTests := true, laidLooks := .later }
def XferSameCardSaid : Prop := Claim7.holds Tryd.pinned (.plain (OpenSpec.ofChange xferSameSpec)) xferSameCard

end Rows
end Go.Proofs.YtlalkfebedjlgaaDoor
