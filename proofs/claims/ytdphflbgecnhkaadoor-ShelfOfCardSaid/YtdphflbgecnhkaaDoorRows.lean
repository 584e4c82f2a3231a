/-
  NARROWER THAN 'FOR EVERY INPUT', by the rows' own cells (each row's printed sentence says how): ShelfIds: laid · ShelfOf: laid · ShelfUnlike: laid.
  DERIVED. THE GIVEN ROWS OF THIS SEAT. 3 by the template 'for every input the law returns true; each argument reads behind the call as it read before'; 0 by the template 'total and deterministic' (their statements: YtdphflbgecnhkaaDoorTotals.lean).
  GIVEN WITH THE SEED: the statements are not yours to turn. If you find one false, say at which input.
  Laid BY PROGRAM, IN A SANDBOX (cutbox-rows.mjs): the forced cells as the released guide's own fill.sh prints them over the translation 3faf140797bca2fb… (all of the seat's roots in one cut). By AI agents, Wed Nov 11 2026. No macro, syntax, notation, axiom, sorry.
-/
import Derived.Test.YtdphflbgecnhkaaDoorChecked
import GoSem.PinnedTables
import GoSem.Claim
import GoSem.ClaimJoined
import GoSem.ClaimMapViews
import Derived.JoinedTies
import Derived.KernelRfl
namespace Go.Proofs.YtdphflbgecnhkaaDoor
/- THE CELL 'sum', in the pinned program and in every row, IS THE sha256 OF THE DUMP (.gsa) THAT YtdphflbgecnhkaaDoorProg.lean LOADS. Nothing in Lean hashes anything: it is a label: what it is worth is what the hold of that sum in a sandbox is worth. -/
noncomputable def Tryd.pinned : Pinned := { name := "ytdphflbgecnhkaadoor", sum := "3faf140797bca2fb653985f933d3343469fc33da1fee2999ac1e484766eb12ed", checked := Tryd.checked }
namespace Rows
def none {H : Type} : Left H := { results := [], args := [] }

/- WHAT THE LISTED PACKAGE-LEVEL VARIABLES READ AS WHEN THE CALL BEGINS. Each datum BY PROGRAM (the guide's laid-datum.mjs) off the statement by which the dump's own 'gosem.cut.vars' lays the variable. In a bare row this is a premise. The card (YtdphflbgecnhkaaDoorCards.lean) ties it to the program's text. -/
def laid_unicode_utf8_acceptRanges {H : Type} : DataW H := .agg [.agg [.lit (.int .u8 128), .lit (.int .u8 191)], .agg [.lit (.int .u8 160), .lit (.int .u8 191)], .agg [.lit (.int .u8 128), .lit (.int .u8 159)], .agg [.lit (.int .u8 144), .lit (.int .u8 191)], .agg [.lit (.int .u8 128), .lit (.int .u8 143)], .agg [.lit (.int .u8 0), .lit (.int .u8 0)], .agg [.lit (.int .u8 0), .lit (.int .u8 0)], .agg [.lit (.int .u8 0), .lit (.int .u8 0)], .agg [.lit (.int .u8 0), .lit (.int .u8 0)], .agg [.lit (.int .u8 0), .lit (.int .u8 0)], .agg [.lit (.int .u8 0), .lit (.int .u8 0)], .agg [.lit (.int .u8 0), .lit (.int .u8 0)], .agg [.lit (.int .u8 0), .lit (.int .u8 0)], .agg [.lit (.int .u8 0), .lit (.int .u8 0)], .agg [.lit (.int .u8 0), .lit (.int .u8 0)], .agg [.lit (.int .u8 0), .lit (.int .u8 0)]]
/-- One of Go's own tables, pinned by name: the form's constant. -/
def laid_unicode_utf8_first : DataW Unit := Go.Pinned.utf8First
def laid_bondstore_wide_Most {H : Type} : DataW H := .agg [.lit (.int .u64 18446744073709551615), .lit (.int .u64 18446744073709551615)]

/-- 'bondstorelaw26.ShelfIds': WHATEVER THE INPUT: true; the input reads as it did. -/
def shelfIdsSpec : ChangeSpec := { name := "shelfIds", fn := fun _ => fun
  | [d] => { results := [.lit (.bool true)], args := [d] }
  | _ => none }
def shelfIdsRow : OpenClaim := { program := "ytdphflbgecnhkaadoor", sum := "3faf140797bca2fb653985f933d3343469fc33da1fee2999ac1e484766eb12ed", func := "bondstore/bondstorelaw26.ShelfIds", spec := "shelfIds", inPlace := ["internal/bytealg.IndexByteString", "internal/bytealg.IndexString"], named := ["unicode/utf8.first", "unicode/utf8.acceptRanges", "internal/bytealg.MaxLen"], apart := false, laid := [("unicode/utf8.acceptRanges", laid_unicode_utf8_acceptRanges), ("unicode/utf8.first", laid_unicode_utf8_first)] }
def ShelfIdsSaid : Prop := shelfIdsRow.holds Tryd.pinned (OpenSpec.ofChange shelfIdsSpec)

/-- ITS FALSE NEIGHBOUR: 'it returns false'. Refute it at one input. -/
def shelfIdsWrong : ChangeSpec := { name := "shelfIds", fn := fun _ => fun
  | [d] => { results := [.lit (.bool false)], args := [d] }
  | _ => none }
def ShelfIdsWrongFalsely : Prop := shelfIdsRow.holds Tryd.pinned (OpenSpec.ofChange shelfIdsWrong)

/-- 'bondstorelaw26.ShelfOf': WHATEVER THE INPUT: true; the input reads as it did. -/
def shelfOfSpec : ChangeSpec := { name := "shelfOf", fn := fun _ => fun
  | [d] => { results := [.lit (.bool true)], args := [d] }
  | _ => none }
def shelfOfRow : OpenClaim := { program := "ytdphflbgecnhkaadoor", sum := "3faf140797bca2fb653985f933d3343469fc33da1fee2999ac1e484766eb12ed", func := "bondstore/bondstorelaw26.ShelfOf", spec := "shelfOf", inPlace := ["internal/bytealg.IndexByteString", "internal/bytealg.IndexString"], named := ["unicode/utf8.first", "unicode/utf8.acceptRanges", "internal/bytealg.MaxLen"], apart := false, laid := [("unicode/utf8.acceptRanges", laid_unicode_utf8_acceptRanges), ("unicode/utf8.first", laid_unicode_utf8_first)] }
def ShelfOfSaid : Prop := shelfOfRow.holds Tryd.pinned (OpenSpec.ofChange shelfOfSpec)

/-- ITS FALSE NEIGHBOUR: 'it returns false'. Refute it at one input. -/
def shelfOfWrong : ChangeSpec := { name := "shelfOf", fn := fun _ => fun
  | [d] => { results := [.lit (.bool false)], args := [d] }
  | _ => none }
def ShelfOfWrongFalsely : Prop := shelfOfRow.holds Tryd.pinned (OpenSpec.ofChange shelfOfWrong)

/-- 'bondstorelaw26.ShelfUnlike': WHATEVER THE INPUT: true; the input reads as it did. -/
def shelfUnlikeSpec : ChangeSpec := { name := "shelfUnlike", fn := fun _ => fun
  | [d1, d2] => { results := [.lit (.bool true)], args := [d1, d2] }
  | _ => none }
def shelfUnlikeRow : OpenClaim := { program := "ytdphflbgecnhkaadoor", sum := "3faf140797bca2fb653985f933d3343469fc33da1fee2999ac1e484766eb12ed", func := "bondstore/bondstorelaw26.ShelfUnlike", spec := "shelfUnlike", named := ["bondstore/wide.Most"], apart := false, laid := [("bondstore/wide.Most", laid_bondstore_wide_Most)] }
def ShelfUnlikeSaid : Prop := shelfUnlikeRow.holds Tryd.pinned (OpenSpec.ofChange shelfUnlikeSpec)

/-- ITS FALSE NEIGHBOUR: 'it returns false'. Refute it at one input. -/
def shelfUnlikeWrong : ChangeSpec := { name := "shelfUnlike", fn := fun _ => fun
  | [d1, d2] => { results := [.lit (.bool false)], args := [d1, d2] }
  | _ => none }
def ShelfUnlikeWrongFalsely : Prop := shelfUnlikeRow.holds Tryd.pinned (OpenSpec.ofChange shelfUnlikeWrong)

/- THE SECOND FORM. 'bulk': how many values and letters a reading holds, each counted each time it is reached (what is shared counts as often as it is met; a slice's spare places count too). A statement '..UptoSaid' is the law's where the arguments, and the package variables that the reading takes, are together of bulk at most 1048576: NARROWER than '..Said'. Prove '..Said' where nothing that the law and all that it calls make is longer than what came in: it says more and counts as full. Else prove '..UptoSaid'. A law counts once. -/
mutual
def uptoBulk {H : Type} : DataW H → Nat
  | .lit (.string bytes) => bytes.length + 1
  | .lit _ => 1
  | .nil => 1
  | .ptr d => uptoBulk d + 1
  | .slice elems spare => uptoBulkAll elems + uptoBulkAll spare + 1
  | .agg parts => uptoBulkAll parts + 1
  | .iface _ d => uptoBulk d + 1
  | .map entries => uptoBulkEntries entries + 1
  | .held _ => 1
def uptoBulkAll {H : Type} : List (DataW H) → Nat
  | [] => 0
  | d :: r => uptoBulk d + uptoBulkAll r
def uptoBulkEntries {H : Type} : List (Lit × DataW H) → Nat
  | [] => 0
  | x :: r => uptoBulkEntry x + uptoBulkEntries r
def uptoBulkEntry {H : Type} : Lit × DataW H → Nat
  | (.string bytes, d) => bytes.length + uptoBulk d + 1
  | (_, d) => uptoBulk d + 1
 end
def uptoSmall : (H : Type) → List (DataW H) → Bool := fun _ ds => decide (uptoBulkAll ds ≤ 1048576)
def OpenSpec.upto (s : _root_.Go.ChangeSpec) : _root_.Go.OpenSpec := { _root_.Go.OpenSpec.ofChange s with cond := some uptoSmall }

/-- 'bondstorelaw26.ShelfIds', WHERE WHAT IT READS IS OF BULK AT MOST 1048576: true; the input reads as it did. -/
def shelfIdsUptoRow : OpenClaim := { program := "ytdphflbgecnhkaadoor", sum := "3faf140797bca2fb653985f933d3343469fc33da1fee2999ac1e484766eb12ed", func := "bondstore/bondstorelaw26.ShelfIds", spec := "shelfIds", inPlace := ["internal/bytealg.IndexByteString", "internal/bytealg.IndexString"], named := ["unicode/utf8.first", "unicode/utf8.acceptRanges", "internal/bytealg.MaxLen"], apart := false, laid := [("unicode/utf8.acceptRanges", laid_unicode_utf8_acceptRanges), ("unicode/utf8.first", laid_unicode_utf8_first)], narrowed := true }
def ShelfIdsUptoSaid : Prop := shelfIdsUptoRow.holds Tryd.pinned (OpenSpec.upto shelfIdsSpec)

/-- 'bondstorelaw26.ShelfOf', WHERE WHAT IT READS IS OF BULK AT MOST 1048576: true; the input reads as it did. -/
def shelfOfUptoRow : OpenClaim := { program := "ytdphflbgecnhkaadoor", sum := "3faf140797bca2fb653985f933d3343469fc33da1fee2999ac1e484766eb12ed", func := "bondstore/bondstorelaw26.ShelfOf", spec := "shelfOf", inPlace := ["internal/bytealg.IndexByteString", "internal/bytealg.IndexString"], named := ["unicode/utf8.first", "unicode/utf8.acceptRanges", "internal/bytealg.MaxLen"], apart := false, laid := [("unicode/utf8.acceptRanges", laid_unicode_utf8_acceptRanges), ("unicode/utf8.first", laid_unicode_utf8_first)], narrowed := true }
def ShelfOfUptoSaid : Prop := shelfOfUptoRow.holds Tryd.pinned (OpenSpec.upto shelfOfSpec)

/-- 'bondstorelaw26.ShelfUnlike', WHERE WHAT IT READS IS OF BULK AT MOST 1048576: true; the input reads as it did. -/
def shelfUnlikeUptoRow : OpenClaim := { program := "ytdphflbgecnhkaadoor", sum := "3faf140797bca2fb653985f933d3343469fc33da1fee2999ac1e484766eb12ed", func := "bondstore/bondstorelaw26.ShelfUnlike", spec := "shelfUnlike", named := ["bondstore/wide.Most"], apart := false, laid := [("bondstore/wide.Most", laid_bondstore_wide_Most)], narrowed := true }
def ShelfUnlikeUptoSaid : Prop := shelfUnlikeUptoRow.holds Tryd.pinned (OpenSpec.upto shelfUnlikeSpec)

end Rows
end Go.Proofs.YtdphflbgecnhkaaDoor
