/-
  NARROWER THAN 'FOR EVERY INPUT', by the rows' own cells (each row's printed sentence says how): WideSums: laid · WideOrder: laid · WideBytes: laid · WideShows: laid · WideParses: laid · WideLaws: laid.
  DERIVED. THE GIVEN ROWS OF THIS SEAT. 6 by the template 'for every input the law returns true; each argument reads behind the call as it read before'; 0 by the template 'total and deterministic' (their statements: YtddjogbenfkcpaaDoorTotals.lean).
  GIVEN WITH THE SEED: the statements are not yours to turn. If you find one false, say at which input.
  Laid BY PROGRAM, IN A SANDBOX (cutbox-rows.mjs): the forced cells as the released guide's own fill.sh prints them over the translation 3085b315c23391fb… (all of the seat's roots in one cut). By AI agents, Wed Nov 11 2026. No macro, syntax, notation, axiom, sorry.
-/
import Derived.Test.YtddjogbenfkcpaaDoorChecked
import GoSem.Claim
import GoSem.ClaimJoined
import GoSem.ClaimMapViews
import Derived.JoinedTies
import Derived.KernelRfl
namespace Go.Proofs.YtddjogbenfkcpaaDoor
/- THE CELL 'sum', in the pinned program and in every row, IS THE sha256 OF THE DUMP (.gsa) THAT YtddjogbenfkcpaaDoorProg.lean LOADS. Nothing in Lean hashes anything: it is a label: what it is worth is what the hold of that sum in a sandbox is worth. -/
noncomputable def Tryd.pinned : Pinned := { name := "ytddjogbenfkcpaadoor", sum := "3085b315c23391fb7b19f06b6614d307ad1f2adcba3355716c8069969ce7bba6", checked := Tryd.checked }
namespace Rows
def none {H : Type} : Left H := { results := [], args := [] }

/- WHAT THE LISTED PACKAGE-LEVEL VARIABLES READ AS WHEN THE CALL BEGINS. Each datum BY PROGRAM (the guide's laid-datum.mjs) off the statement by which the dump's own 'gosem.cut.vars' lays the variable. In a bare row this is a premise. The card (YtddjogbenfkcpaaDoorCards.lean) ties it to the program's text. -/
def laid_bondstore_wide_Most {H : Type} : DataW H := .agg [.lit (.int .u64 18446744073709551615), .lit (.int .u64 18446744073709551615)]

/-- 'bondstorelaw01.WideSums': WHATEVER THE INPUT: true; the input reads as it did. -/
def wideSumsSpec : ChangeSpec := { name := "wideSums", fn := fun _ => fun
  | [d1, d2, d3] => { results := [.lit (.bool true)], args := [d1, d2, d3] }
  | _ => none }
def wideSumsRow : OpenClaim := { program := "ytddjogbenfkcpaadoor", sum := "3085b315c23391fb7b19f06b6614d307ad1f2adcba3355716c8069969ce7bba6", func := "bondstore/bondstorelaw01.WideSums", spec := "wideSums", inPlace := ["math/bits.Add64", "math/bits.Sub64"], named := ["bondstore/wide.Most", "math/bits.divideError", "math/bits.overflowError"], apart := false, laid := [("bondstore/wide.Most", laid_bondstore_wide_Most)] }
def WideSumsSaid : Prop := wideSumsRow.holds Tryd.pinned (OpenSpec.ofChange wideSumsSpec)

/-- ITS FALSE NEIGHBOUR: 'it returns false'. Refute it at one input. -/
def wideSumsWrong : ChangeSpec := { name := "wideSums", fn := fun _ => fun
  | [d1, d2, d3] => { results := [.lit (.bool false)], args := [d1, d2, d3] }
  | _ => none }
def WideSumsWrongFalsely : Prop := wideSumsRow.holds Tryd.pinned (OpenSpec.ofChange wideSumsWrong)

/-- 'bondstorelaw01.WideOrder': WHATEVER THE INPUT: true; the input reads as it did. -/
def wideOrderSpec : ChangeSpec := { name := "wideOrder", fn := fun _ => fun
  | [d1, d2, d3] => { results := [.lit (.bool true)], args := [d1, d2, d3] }
  | _ => none }
def wideOrderRow : OpenClaim := { program := "ytddjogbenfkcpaadoor", sum := "3085b315c23391fb7b19f06b6614d307ad1f2adcba3355716c8069969ce7bba6", func := "bondstore/bondstorelaw01.WideOrder", spec := "wideOrder", inPlace := ["math/bits.Add64"], named := ["bondstore/wide.Most", "math/bits.divideError", "math/bits.overflowError"], apart := false, laid := [("bondstore/wide.Most", laid_bondstore_wide_Most)] }
def WideOrderSaid : Prop := wideOrderRow.holds Tryd.pinned (OpenSpec.ofChange wideOrderSpec)

/-- ITS FALSE NEIGHBOUR: 'it returns false'. Refute it at one input. -/
def wideOrderWrong : ChangeSpec := { name := "wideOrder", fn := fun _ => fun
  | [d1, d2, d3] => { results := [.lit (.bool false)], args := [d1, d2, d3] }
  | _ => none }
def WideOrderWrongFalsely : Prop := wideOrderRow.holds Tryd.pinned (OpenSpec.ofChange wideOrderWrong)

/-- 'bondstorelaw01.WideBytes': WHATEVER THE INPUT: true; the input reads as it did. -/
def wideBytesSpec : ChangeSpec := { name := "wideBytes", fn := fun _ => fun
  | [d1, d2, d3] => { results := [.lit (.bool true)], args := [d1, d2, d3] }
  | _ => none }
def wideBytesRow : OpenClaim := { program := "ytddjogbenfkcpaadoor", sum := "3085b315c23391fb7b19f06b6614d307ad1f2adcba3355716c8069969ce7bba6", func := "bondstore/bondstorelaw01.WideBytes", spec := "wideBytes", inPlace := ["math/bits.Add64"], named := ["bondstore/wide.Most", "math/bits.divideError", "math/bits.overflowError"], apart := false, laid := [("bondstore/wide.Most", laid_bondstore_wide_Most)] }
def WideBytesSaid : Prop := wideBytesRow.holds Tryd.pinned (OpenSpec.ofChange wideBytesSpec)

/-- ITS FALSE NEIGHBOUR: 'it returns false'. Refute it at one input. -/
def wideBytesWrong : ChangeSpec := { name := "wideBytes", fn := fun _ => fun
  | [d1, d2, d3] => { results := [.lit (.bool false)], args := [d1, d2, d3] }
  | _ => none }
def WideBytesWrongFalsely : Prop := wideBytesRow.holds Tryd.pinned (OpenSpec.ofChange wideBytesWrong)

/-- 'bondstorelaw01.WideShows': WHATEVER THE INPUT: true; the input reads as it did. -/
def wideShowsSpec : ChangeSpec := { name := "wideShows", fn := fun _ => fun
  | [d] => { results := [.lit (.bool true)], args := [d] }
  | _ => none }
def wideShowsRow : OpenClaim := { program := "ytddjogbenfkcpaadoor", sum := "3085b315c23391fb7b19f06b6614d307ad1f2adcba3355716c8069969ce7bba6", func := "bondstore/bondstorelaw01.WideShows", spec := "wideShows", inPlace := ["math/bits.Add64"], named := ["bondstore/wide.Most", "math/bits.divideError", "math/bits.overflowError"], apart := false, laid := [("bondstore/wide.Most", laid_bondstore_wide_Most)] }
def WideShowsSaid : Prop := wideShowsRow.holds Tryd.pinned (OpenSpec.ofChange wideShowsSpec)

/-- ITS FALSE NEIGHBOUR: 'it returns false'. Refute it at one input. -/
def wideShowsWrong : ChangeSpec := { name := "wideShows", fn := fun _ => fun
  | [d] => { results := [.lit (.bool false)], args := [d] }
  | _ => none }
def WideShowsWrongFalsely : Prop := wideShowsRow.holds Tryd.pinned (OpenSpec.ofChange wideShowsWrong)

/-- 'bondstorelaw01.WideParses': WHATEVER THE INPUT: true; the input reads as it did. -/
def wideParsesSpec : ChangeSpec := { name := "wideParses", fn := fun _ => fun
  | [d] => { results := [.lit (.bool true)], args := [d] }
  | _ => none }
def wideParsesRow : OpenClaim := { program := "ytddjogbenfkcpaadoor", sum := "3085b315c23391fb7b19f06b6614d307ad1f2adcba3355716c8069969ce7bba6", func := "bondstore/bondstorelaw01.WideParses", spec := "wideParses", inPlace := ["math/bits.Add64"], named := ["bondstore/wide.Most", "math/bits.divideError", "math/bits.overflowError"], apart := false, laid := [("bondstore/wide.Most", laid_bondstore_wide_Most)] }
def WideParsesSaid : Prop := wideParsesRow.holds Tryd.pinned (OpenSpec.ofChange wideParsesSpec)

/-- ITS FALSE NEIGHBOUR: 'it returns false'. Refute it at one input. -/
def wideParsesWrong : ChangeSpec := { name := "wideParses", fn := fun _ => fun
  | [d] => { results := [.lit (.bool false)], args := [d] }
  | _ => none }
def WideParsesWrongFalsely : Prop := wideParsesRow.holds Tryd.pinned (OpenSpec.ofChange wideParsesWrong)

/-- 'bondstorelaw01.WideLaws': WHATEVER THE INPUT: true; the input reads as it did. -/
def wideLawsSpec : ChangeSpec := { name := "wideLaws", fn := fun _ => fun
  | [d1, d2, d3] => { results := [.lit (.bool true)], args := [d1, d2, d3] }
  | _ => none }
def wideLawsRow : OpenClaim := { program := "ytddjogbenfkcpaadoor", sum := "3085b315c23391fb7b19f06b6614d307ad1f2adcba3355716c8069969ce7bba6", func := "bondstore/bondstorelaw01.WideLaws", spec := "wideLaws", inPlace := ["math/bits.Add64"], named := ["bondstore/wide.Most", "math/bits.divideError", "math/bits.overflowError"], apart := false, laid := [("bondstore/wide.Most", laid_bondstore_wide_Most)] }
def WideLawsSaid : Prop := wideLawsRow.holds Tryd.pinned (OpenSpec.ofChange wideLawsSpec)

/-- ITS FALSE NEIGHBOUR: 'it returns false'. Refute it at one input. -/
def wideLawsWrong : ChangeSpec := { name := "wideLaws", fn := fun _ => fun
  | [d1, d2, d3] => { results := [.lit (.bool false)], args := [d1, d2, d3] }
  | _ => none }
def WideLawsWrongFalsely : Prop := wideLawsRow.holds Tryd.pinned (OpenSpec.ofChange wideLawsWrong)

/- THE SECOND FORM. 'bulk': how many values and letters a reading holds, each counted each time it is reached (what is shared counts as often as it is met; a slice's spare places count too). A statement '..UptoSaid' is the law's where the arguments, and the package variables that the reading takes, are together of bulk at most 1048576: NARROWER than '..Said'. Prove '..Said' where nothing that the law and all that it calls make is longer than what came in: it says more and counts as full. Else prove '..UptoSaid'. A law counts once. -/
mutual
def uptoBulk {H : Type} : DataW H → Nat
  | .lit (.string bytes) => bytes.length + 1
  | .lit _ => 1
  | .nil => 1
  | .ptr d => uptoBulk d + 1
  | .slice elems spare => uptoBulkAll elems + uptoBulkAll spare + 1
  | .agg parts => uptoBulkAll parts + 1
  | .iface _ d => uptoBulk d + 1
  | .map entries => uptoBulkEntries entries + 1
  | .held _ => 1
def uptoBulkAll {H : Type} : List (DataW H) → Nat
  | [] => 0
  | d :: r => uptoBulk d + uptoBulkAll r
def uptoBulkEntries {H : Type} : List (Lit × DataW H) → Nat
  | [] => 0
  | x :: r => uptoBulkEntry x + uptoBulkEntries r
def uptoBulkEntry {H : Type} : Lit × DataW H → Nat
  | (.string bytes, d) => bytes.length + uptoBulk d + 1
  | (_, d) => uptoBulk d + 1
 end
def uptoSmall : (H : Type) → List (DataW H) → Bool := fun _ ds => decide (uptoBulkAll ds ≤ 1048576)
def OpenSpec.upto (s : _root_.Go.ChangeSpec) : _root_.Go.OpenSpec := { _root_.Go.OpenSpec.ofChange s with cond := some uptoSmall }

/-- 'bondstorelaw01.WideSums', WHERE WHAT IT READS IS OF BULK AT MOST 1048576: true; the input reads as it did. -/
def wideSumsUptoRow : OpenClaim := { program := "ytddjogbenfkcpaadoor", sum := "3085b315c23391fb7b19f06b6614d307ad1f2adcba3355716c8069969ce7bba6", func := "bondstore/bondstorelaw01.WideSums", spec := "wideSums", inPlace := ["math/bits.Add64", "math/bits.Sub64"], named := ["bondstore/wide.Most", "math/bits.divideError", "math/bits.overflowError"], apart := false, laid := [("bondstore/wide.Most", laid_bondstore_wide_Most)], narrowed := true }
def WideSumsUptoSaid : Prop := wideSumsUptoRow.holds Tryd.pinned (OpenSpec.upto wideSumsSpec)

/-- 'bondstorelaw01.WideOrder', WHERE WHAT IT READS IS OF BULK AT MOST 1048576: true; the input reads as it did. -/
def wideOrderUptoRow : OpenClaim := { program := "ytddjogbenfkcpaadoor", sum := "3085b315c23391fb7b19f06b6614d307ad1f2adcba3355716c8069969ce7bba6", func := "bondstore/bondstorelaw01.WideOrder", spec := "wideOrder", inPlace := ["math/bits.Add64"], named := ["bondstore/wide.Most", "math/bits.divideError", "math/bits.overflowError"], apart := false, laid := [("bondstore/wide.Most", laid_bondstore_wide_Most)], narrowed := true }
def WideOrderUptoSaid : Prop := wideOrderUptoRow.holds Tryd.pinned (OpenSpec.upto wideOrderSpec)

/-- 'bondstorelaw01.WideBytes', WHERE WHAT IT READS IS OF BULK AT MOST 1048576: true; the input reads as it did. -/
def wideBytesUptoRow : OpenClaim := { program := "ytddjogbenfkcpaadoor", sum := "3085b315c23391fb7b19f06b6614d307ad1f2adcba3355716c8069969ce7bba6", func := "bondstore/bondstorelaw01.WideBytes", spec := "wideBytes", inPlace := ["math/bits.Add64"], named := ["bondstore/wide.Most", "math/bits.divideError", "math/bits.overflowError"], apart := false, laid := [("bondstore/wide.Most", laid_bondstore_wide_Most)], narrowed := true }
def WideBytesUptoSaid : Prop := wideBytesUptoRow.holds Tryd.pinned (OpenSpec.upto wideBytesSpec)

/-- 'bondstorelaw01.WideShows', WHERE WHAT IT READS IS OF BULK AT MOST 1048576: true; the input reads as it did. -/
def wideShowsUptoRow : OpenClaim := { program := "ytddjogbenfkcpaadoor", sum := "3085b315c23391fb7b19f06b6614d307ad1f2adcba3355716c8069969ce7bba6", func := "bondstore/bondstorelaw01.WideShows", spec := "wideShows", inPlace := ["math/bits.Add64"], named := ["bondstore/wide.Most", "math/bits.divideError", "math/bits.overflowError"], apart := false, laid := [("bondstore/wide.Most", laid_bondstore_wide_Most)], narrowed := true }
def WideShowsUptoSaid : Prop := wideShowsUptoRow.holds Tryd.pinned (OpenSpec.upto wideShowsSpec)

/-- 'bondstorelaw01.WideParses', WHERE WHAT IT READS IS OF BULK AT MOST 1048576: true; the input reads as it did. -/
def wideParsesUptoRow : OpenClaim := { program := "ytddjogbenfkcpaadoor", sum := "3085b315c23391fb7b19f06b6614d307ad1f2adcba3355716c8069969ce7bba6", func := "bondstore/bondstorelaw01.WideParses", spec := "wideParses", inPlace := ["math/bits.Add64"], named := ["bondstore/wide.Most", "math/bits.divideError", "math/bits.overflowError"], apart := false, laid := [("bondstore/wide.Most", laid_bondstore_wide_Most)], narrowed := true }
def WideParsesUptoSaid : Prop := wideParsesUptoRow.holds Tryd.pinned (OpenSpec.upto wideParsesSpec)

/-- 'bondstorelaw01.WideLaws', WHERE WHAT IT READS IS OF BULK AT MOST 1048576: true; the input reads as it did. -/
def wideLawsUptoRow : OpenClaim := { program := "ytddjogbenfkcpaadoor", sum := "3085b315c23391fb7b19f06b6614d307ad1f2adcba3355716c8069969ce7bba6", func := "bondstore/bondstorelaw01.WideLaws", spec := "wideLaws", inPlace := ["math/bits.Add64"], named := ["bondstore/wide.Most", "math/bits.divideError", "math/bits.overflowError"], apart := false, laid := [("bondstore/wide.Most", laid_bondstore_wide_Most)], narrowed := true }
def WideLawsUptoSaid : Prop := wideLawsUptoRow.holds Tryd.pinned (OpenSpec.upto wideLawsSpec)

end Rows
end Go.Proofs.YtddjogbenfkcpaaDoor
