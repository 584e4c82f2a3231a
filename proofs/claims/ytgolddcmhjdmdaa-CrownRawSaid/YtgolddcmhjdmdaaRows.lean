/-
  No cell of these rows narrows 'for every input' (looked for: loops, veiled, ifaces, maps, wideKeys, modest, calm, conditions, laid).
  DERIVED. THE GIVEN ROWS OF THIS SEAT. 5 by the template 'for every input the law returns true; each argument reads behind the call as it read before'; 0 by the template 'total and deterministic' (their statements: YtgolddcmhjdmdaaTotals.lean).
  GIVEN WITH THE SEED: the statements are not yours to turn. If you find one false, say at which input.
  Laid BY PROGRAM, IN A SANDBOX (cutbox-rows.mjs): the forced cells as the released guide's own fill.sh prints them over the translation dc5b6ccbbaa02bb8… (all of the seat's roots in one cut). By AI agents, Wed Nov 11 2026. No macro, syntax, notation, axiom, sorry.
-/
import Derived.Test.YtgolddcmhjdmdaaChecked
import GoSem.Claim
import GoSem.ClaimJoined
import GoSem.ClaimMapViews
import Derived.JoinedTies
import Derived.KernelRfl
namespace Go.Proofs.Ytgolddcmhjdmdaa
/- THE CELL 'sum', in the pinned program and in every row, IS THE sha256 OF THE DUMP (.gsa) THAT YtgolddcmhjdmdaaProg.lean LOADS. Nothing in Lean hashes anything: it is a label: what it is worth is what the hold of that sum in a sandbox is worth. -/
noncomputable def Try.pinned : Pinned := { name := "ytgolddcmhjdmdaa", sum := "dc5b6ccbbaa02bb863103b73962ac1e714ae07c25e1fbf7e69a4797fa07c601a", checked := Try.checked }
namespace Rows
def none {H : Type} : Left H := { results := [], args := [] }

/-- 'bondstorelaw08.CrownBytes': WHATEVER THE INPUT: true; the input reads as it did. -/
def crownBytesSpec : ChangeSpec := { name := "crownBytes", fn := fun _ => fun
  | [d] => { results := [.lit (.bool true)], args := [d] }
  | _ => none }
def crownBytesRow : OpenClaim := { program := "ytgolddcmhjdmdaa", sum := "dc5b6ccbbaa02bb863103b73962ac1e714ae07c25e1fbf7e69a4797fa07c601a", func := "bondstore/bondstorelaw08.CrownBytes", spec := "crownBytes", inPlace := ["internal/abi.NoEscape", "internal/bytealg.MakeNoZero"], apart := false }
def CrownBytesSaid : Prop := crownBytesRow.holds Try.pinned (OpenSpec.ofChange crownBytesSpec)

/-- ITS FALSE NEIGHBOUR: 'it returns false'. Refute it at one input. -/
def crownBytesWrong : ChangeSpec := { name := "crownBytes", fn := fun _ => fun
  | [d] => { results := [.lit (.bool false)], args := [d] }
  | _ => none }
def CrownBytesWrongFalsely : Prop := crownBytesRow.holds Try.pinned (OpenSpec.ofChange crownBytesWrong)

/-- 'bondstorelaw08.CrownReads': WHATEVER THE INPUT: true; the input reads as it did. -/
def crownReadsSpec : ChangeSpec := { name := "crownReads", fn := fun _ => fun
  | [d] => { results := [.lit (.bool true)], args := [d] }
  | _ => none }
def crownReadsRow : OpenClaim := { program := "ytgolddcmhjdmdaa", sum := "dc5b6ccbbaa02bb863103b73962ac1e714ae07c25e1fbf7e69a4797fa07c601a", func := "bondstore/bondstorelaw08.CrownReads", spec := "crownReads", inPlace := ["internal/abi.NoEscape", "internal/bytealg.MakeNoZero"], apart := false }
def CrownReadsSaid : Prop := crownReadsRow.holds Try.pinned (OpenSpec.ofChange crownReadsSpec)

/-- ITS FALSE NEIGHBOUR: 'it returns false'. Refute it at one input. -/
def crownReadsWrong : ChangeSpec := { name := "crownReads", fn := fun _ => fun
  | [d] => { results := [.lit (.bool false)], args := [d] }
  | _ => none }
def CrownReadsWrongFalsely : Prop := crownReadsRow.holds Try.pinned (OpenSpec.ofChange crownReadsWrong)

/-- 'bondstorelaw08.CrownPuts': WHATEVER THE INPUT: true; the input reads as it did. -/
def crownPutsSpec : ChangeSpec := { name := "crownPuts", fn := fun _ => fun
  | [d1, d2] => { results := [.lit (.bool true)], args := [d1, d2] }
  | _ => none }
def crownPutsRow : OpenClaim := { program := "ytgolddcmhjdmdaa", sum := "dc5b6ccbbaa02bb863103b73962ac1e714ae07c25e1fbf7e69a4797fa07c601a", func := "bondstore/bondstorelaw08.CrownPuts", spec := "crownPuts", inPlace := ["internal/abi.NoEscape", "internal/bytealg.MakeNoZero"], apart := false }
def CrownPutsSaid : Prop := crownPutsRow.holds Try.pinned (OpenSpec.ofChange crownPutsSpec)

/-- ITS FALSE NEIGHBOUR: 'it returns false'. Refute it at one input. -/
def crownPutsWrong : ChangeSpec := { name := "crownPuts", fn := fun _ => fun
  | [d1, d2] => { results := [.lit (.bool false)], args := [d1, d2] }
  | _ => none }
def CrownPutsWrongFalsely : Prop := crownPutsRow.holds Try.pinned (OpenSpec.ofChange crownPutsWrong)

/-- 'bondstorelaw08.CrownCrash': WHATEVER THE INPUT: true; the input reads as it did. -/
def crownCrashSpec : ChangeSpec := { name := "crownCrash", fn := fun _ => fun
  | [d1, d2, d3, d4, d5, d6, d7] => { results := [.lit (.bool true)], args := [d1, d2, d3, d4, d5, d6, d7] }
  | _ => none }
def crownCrashRow : OpenClaim := { program := "ytgolddcmhjdmdaa", sum := "dc5b6ccbbaa02bb863103b73962ac1e714ae07c25e1fbf7e69a4797fa07c601a", func := "bondstore/bondstorelaw08.CrownCrash", spec := "crownCrash", inPlace := ["internal/abi.NoEscape", "internal/bytealg.MakeNoZero"], apart := false }
def CrownCrashSaid : Prop := crownCrashRow.holds Try.pinned (OpenSpec.ofChange crownCrashSpec)

/-- ITS FALSE NEIGHBOUR: 'it returns false'. Refute it at one input. -/
def crownCrashWrong : ChangeSpec := { name := "crownCrash", fn := fun _ => fun
  | [d1, d2, d3, d4, d5, d6, d7] => { results := [.lit (.bool false)], args := [d1, d2, d3, d4, d5, d6, d7] }
  | _ => none }
def CrownCrashWrongFalsely : Prop := crownCrashRow.holds Try.pinned (OpenSpec.ofChange crownCrashWrong)

/-- 'bondstorelaw08.CrownRaw': WHATEVER THE INPUT: true; the input reads as it did. -/
def crownRawSpec : ChangeSpec := { name := "crownRaw", fn := fun _ => fun
  | [d1, d2] => { results := [.lit (.bool true)], args := [d1, d2] }
  | _ => none }
def crownRawRow : OpenClaim := { program := "ytgolddcmhjdmdaa", sum := "dc5b6ccbbaa02bb863103b73962ac1e714ae07c25e1fbf7e69a4797fa07c601a", func := "bondstore/bondstorelaw08.CrownRaw", spec := "crownRaw", inPlace := ["internal/abi.NoEscape", "internal/bytealg.MakeNoZero"], apart := false }
def CrownRawSaid : Prop := crownRawRow.holds Try.pinned (OpenSpec.ofChange crownRawSpec)

/-- ITS FALSE NEIGHBOUR: 'it returns false'. Refute it at one input. -/
def crownRawWrong : ChangeSpec := { name := "crownRaw", fn := fun _ => fun
  | [d1, d2] => { results := [.lit (.bool false)], args := [d1, d2] }
  | _ => none }
def CrownRawWrongFalsely : Prop := crownRawRow.holds Try.pinned (OpenSpec.ofChange crownRawWrong)

/- THE SECOND FORM. 'bulk': how many values and letters a reading holds, each counted each time it is reached (what is shared counts as often as it is met; a slice's spare places count too). A statement '..UptoSaid' is the law's where the arguments, and the package variables that the reading takes, are together of bulk at most 1048576: NARROWER than '..Said'. Prove '..Said' where nothing that the law and all that it calls make is longer than what came in: it says more and counts as full. Else prove '..UptoSaid'. A law counts once. -/
mutual
def uptoBulk {H : Type} : DataW H → Nat
  | .lit (.string bytes) => bytes.length + 1
  | .lit _ => 1
  | .nil => 1
  | .ptr d => uptoBulk d + 1
  | .slice elems spare => uptoBulkAll elems + uptoBulkAll spare + 1
  | .agg parts => uptoBulkAll parts + 1
  | .iface _ d => uptoBulk d + 1
  | .map entries => uptoBulkEntries entries + 1
  | .held _ => 1
def uptoBulkAll {H : Type} : List (DataW H) → Nat
  | [] => 0
  | d :: r => uptoBulk d + uptoBulkAll r
def uptoBulkEntries {H : Type} : List (Lit × DataW H) → Nat
  | [] => 0
  | x :: r => uptoBulkEntry x + uptoBulkEntries r
def uptoBulkEntry {H : Type} : Lit × DataW H → Nat
  | (.string bytes, d) => bytes.length + uptoBulk d + 1
  | (_, d) => uptoBulk d + 1
 end
def uptoSmall : (H : Type) → List (DataW H) → Bool := fun _ ds => decide (uptoBulkAll ds ≤ 1048576)
def OpenSpec.upto (s : _root_.Go.ChangeSpec) : _root_.Go.OpenSpec := { _root_.Go.OpenSpec.ofChange s with cond := some uptoSmall }

/-- 'bondstorelaw08.CrownBytes', WHERE WHAT IT READS IS OF BULK AT MOST 1048576: true; the input reads as it did. -/
def crownBytesUptoRow : OpenClaim := { program := "ytgolddcmhjdmdaa", sum := "dc5b6ccbbaa02bb863103b73962ac1e714ae07c25e1fbf7e69a4797fa07c601a", func := "bondstore/bondstorelaw08.CrownBytes", spec := "crownBytes", inPlace := ["internal/abi.NoEscape", "internal/bytealg.MakeNoZero"], apart := false, narrowed := true }
def CrownBytesUptoSaid : Prop := crownBytesUptoRow.holds Try.pinned (OpenSpec.upto crownBytesSpec)

/-- 'bondstorelaw08.CrownReads', WHERE WHAT IT READS IS OF BULK AT MOST 1048576: true; the input reads as it did. -/
def crownReadsUptoRow : OpenClaim := { program := "ytgolddcmhjdmdaa", sum := "dc5b6ccbbaa02bb863103b73962ac1e714ae07c25e1fbf7e69a4797fa07c601a", func := "bondstore/bondstorelaw08.CrownReads", spec := "crownReads", inPlace := ["internal/abi.NoEscape", "internal/bytealg.MakeNoZero"], apart := false, narrowed := true }
def CrownReadsUptoSaid : Prop := crownReadsUptoRow.holds Try.pinned (OpenSpec.upto crownReadsSpec)

/-- 'bondstorelaw08.CrownPuts', WHERE WHAT IT READS IS OF BULK AT MOST 1048576: true; the input reads as it did. -/
def crownPutsUptoRow : OpenClaim := { program := "ytgolddcmhjdmdaa", sum := "dc5b6ccbbaa02bb863103b73962ac1e714ae07c25e1fbf7e69a4797fa07c601a", func := "bondstore/bondstorelaw08.CrownPuts", spec := "crownPuts", inPlace := ["internal/abi.NoEscape", "internal/bytealg.MakeNoZero"], apart := false, narrowed := true }
def CrownPutsUptoSaid : Prop := crownPutsUptoRow.holds Try.pinned (OpenSpec.upto crownPutsSpec)

/-- 'bondstorelaw08.CrownCrash', WHERE WHAT IT READS IS OF BULK AT MOST 1048576: true; the input reads as it did. -/
def crownCrashUptoRow : OpenClaim := { program := "ytgolddcmhjdmdaa", sum := "dc5b6ccbbaa02bb863103b73962ac1e714ae07c25e1fbf7e69a4797fa07c601a", func := "bondstore/bondstorelaw08.CrownCrash", spec := "crownCrash", inPlace := ["internal/abi.NoEscape", "internal/bytealg.MakeNoZero"], apart := false, narrowed := true }
def CrownCrashUptoSaid : Prop := crownCrashUptoRow.holds Try.pinned (OpenSpec.upto crownCrashSpec)

/-- 'bondstorelaw08.CrownRaw', WHERE WHAT IT READS IS OF BULK AT MOST 1048576: true; the input reads as it did. -/
def crownRawUptoRow : OpenClaim := { program := "ytgolddcmhjdmdaa", sum := "dc5b6ccbbaa02bb863103b73962ac1e714ae07c25e1fbf7e69a4797fa07c601a", func := "bondstore/bondstorelaw08.CrownRaw", spec := "crownRaw", inPlace := ["internal/abi.NoEscape", "internal/bytealg.MakeNoZero"], apart := false, narrowed := true }
def CrownRawUptoSaid : Prop := crownRawUptoRow.holds Try.pinned (OpenSpec.upto crownRawSpec)

end Rows
end Go.Proofs.Ytgolddcmhjdmdaa
