/-
  No cell of these rows narrows 'for every input' (looked for: loops, veiled, ifaces, maps, wideKeys, modest, calm, conditions, laid).
  DERIVED. THE GIVEN ROWS OF THIS SEAT. 7 by the template 'for every input the law returns true; each argument reads behind the call as it read before'; 0 by the template 'total and deterministic' (their statements: YtjaaicklhhpebaaTotals.lean).
  GIVEN WITH THE SEED: the statements are not yours to turn. If you find one false, say at which input.
  Laid BY PROGRAM, IN A SANDBOX (cutbox-rows.mjs): the forced cells as the released guide's own fill.sh prints them over the translation 78695696e4690fe6… (all of the seat's roots in one cut). By AI agents, Wed Nov 11 2026. No macro, syntax, notation, axiom, sorry.
-/
import Derived.Test.YtjaaicklhhpebaaChecked
import GoSem.Claim
import GoSem.ClaimJoined
import GoSem.ClaimMapViews
import Derived.JoinedTies
import Derived.KernelRfl
namespace Go.Proofs.Ytjaaicklhhpebaa
/- THE CELL 'sum', in the pinned program and in every row, IS THE sha256 OF THE DUMP (.gsa) THAT YtjaaicklhhpebaaProg.lean LOADS. Nothing in Lean hashes anything: it is a label: what it is worth is what the hold of that sum in a sandbox is worth. -/
noncomputable def Try.pinned : Pinned := { name := "ytjaaicklhhpebaa", sum := "78695696e4690fe629ac0e844f168f932c4a98ee3eb512e23fec85d40841b1fa", checked := Try.checked }
namespace Rows
def none {H : Type} : Left H := { results := [], args := [] }

/-- 'bondstorelaw05.StampBytes': WHATEVER THE INPUT: true; the input reads as it did. -/
def stampBytesSpec : ChangeSpec := { name := "stampBytes", fn := fun _ => fun
  | [d] => { results := [.lit (.bool true)], args := [d] }
  | _ => none }
def stampBytesRow : OpenClaim := { program := "ytjaaicklhhpebaa", sum := "78695696e4690fe629ac0e844f168f932c4a98ee3eb512e23fec85d40841b1fa", func := "bondstore/bondstorelaw05.StampBytes", spec := "stampBytes", inPlace := ["internal/abi.NoEscape", "internal/bytealg.MakeNoZero"], apart := false }
def StampBytesSaid : Prop := stampBytesRow.holds Try.pinned (OpenSpec.ofChange stampBytesSpec)

/-- ITS FALSE NEIGHBOUR: 'it returns false'. Refute it at one input. -/
def stampBytesWrong : ChangeSpec := { name := "stampBytes", fn := fun _ => fun
  | [d] => { results := [.lit (.bool false)], args := [d] }
  | _ => none }
def StampBytesWrongFalsely : Prop := stampBytesRow.holds Try.pinned (OpenSpec.ofChange stampBytesWrong)

/-- 'bondstorelaw05.StampReads': WHATEVER THE INPUT: true; the input reads as it did. -/
def stampReadsSpec : ChangeSpec := { name := "stampReads", fn := fun _ => fun
  | [d] => { results := [.lit (.bool true)], args := [d] }
  | _ => none }
def stampReadsRow : OpenClaim := { program := "ytjaaicklhhpebaa", sum := "78695696e4690fe629ac0e844f168f932c4a98ee3eb512e23fec85d40841b1fa", func := "bondstore/bondstorelaw05.StampReads", spec := "stampReads", inPlace := ["internal/abi.NoEscape", "internal/bytealg.MakeNoZero"], apart := false }
def StampReadsSaid : Prop := stampReadsRow.holds Try.pinned (OpenSpec.ofChange stampReadsSpec)

/-- ITS FALSE NEIGHBOUR: 'it returns false'. Refute it at one input. -/
def stampReadsWrong : ChangeSpec := { name := "stampReads", fn := fun _ => fun
  | [d] => { results := [.lit (.bool false)], args := [d] }
  | _ => none }
def StampReadsWrongFalsely : Prop := stampReadsRow.holds Try.pinned (OpenSpec.ofChange stampReadsWrong)

/-- 'bondstorelaw05.StampTorn': WHATEVER THE INPUT: true; the input reads as it did. -/
def stampTornSpec : ChangeSpec := { name := "stampTorn", fn := fun _ => fun
  | [d1, d2, d3] => { results := [.lit (.bool true)], args := [d1, d2, d3] }
  | _ => none }
def stampTornRow : OpenClaim := { program := "ytjaaicklhhpebaa", sum := "78695696e4690fe629ac0e844f168f932c4a98ee3eb512e23fec85d40841b1fa", func := "bondstore/bondstorelaw05.StampTorn", spec := "stampTorn", inPlace := ["internal/abi.NoEscape", "internal/bytealg.MakeNoZero"], apart := false }
def StampTornSaid : Prop := stampTornRow.holds Try.pinned (OpenSpec.ofChange stampTornSpec)

/-- ITS FALSE NEIGHBOUR: 'it returns false'. Refute it at one input. -/
def stampTornWrong : ChangeSpec := { name := "stampTorn", fn := fun _ => fun
  | [d1, d2, d3] => { results := [.lit (.bool false)], args := [d1, d2, d3] }
  | _ => none }
def StampTornWrongFalsely : Prop := stampTornRow.holds Try.pinned (OpenSpec.ofChange stampTornWrong)

/-- 'bondstorelaw05.StampLays': WHATEVER THE INPUT: true; the input reads as it did. -/
def stampLaysSpec : ChangeSpec := { name := "stampLays", fn := fun _ => fun
  | [d1, d2, d3, d4, d5, d6] => { results := [.lit (.bool true)], args := [d1, d2, d3, d4, d5, d6] }
  | _ => none }
def stampLaysRow : OpenClaim := { program := "ytjaaicklhhpebaa", sum := "78695696e4690fe629ac0e844f168f932c4a98ee3eb512e23fec85d40841b1fa", func := "bondstore/bondstorelaw05.StampLays", spec := "stampLays", inPlace := ["internal/abi.NoEscape", "internal/bytealg.MakeNoZero"], apart := false }
def StampLaysSaid : Prop := stampLaysRow.holds Try.pinned (OpenSpec.ofChange stampLaysSpec)

/-- ITS FALSE NEIGHBOUR: 'it returns false'. Refute it at one input. -/
def stampLaysWrong : ChangeSpec := { name := "stampLays", fn := fun _ => fun
  | [d1, d2, d3, d4, d5, d6] => { results := [.lit (.bool false)], args := [d1, d2, d3, d4, d5, d6] }
  | _ => none }
def StampLaysWrongFalsely : Prop := stampLaysRow.holds Try.pinned (OpenSpec.ofChange stampLaysWrong)

/-- 'bondstorelaw05.StampGreatest': WHATEVER THE INPUT: true; the input reads as it did. -/
def stampGreatestSpec : ChangeSpec := { name := "stampGreatest", fn := fun _ => fun
  | [d] => { results := [.lit (.bool true)], args := [d] }
  | _ => none }
def stampGreatestRow : OpenClaim := { program := "ytjaaicklhhpebaa", sum := "78695696e4690fe629ac0e844f168f932c4a98ee3eb512e23fec85d40841b1fa", func := "bondstore/bondstorelaw05.StampGreatest", spec := "stampGreatest", inPlace := ["internal/abi.NoEscape", "internal/bytealg.MakeNoZero"], apart := false }
def StampGreatestSaid : Prop := stampGreatestRow.holds Try.pinned (OpenSpec.ofChange stampGreatestSpec)

/-- ITS FALSE NEIGHBOUR: 'it returns false'. Refute it at one input. -/
def stampGreatestWrong : ChangeSpec := { name := "stampGreatest", fn := fun _ => fun
  | [d] => { results := [.lit (.bool false)], args := [d] }
  | _ => none }
def StampGreatestWrongFalsely : Prop := stampGreatestRow.holds Try.pinned (OpenSpec.ofChange stampGreatestWrong)

/-- 'bondstorelaw05.StampCrash': WHATEVER THE INPUT: true; the input reads as it did. -/
def stampCrashSpec : ChangeSpec := { name := "stampCrash", fn := fun _ => fun
  | [d1, d2, d3, d4, d5] => { results := [.lit (.bool true)], args := [d1, d2, d3, d4, d5] }
  | _ => none }
def stampCrashRow : OpenClaim := { program := "ytjaaicklhhpebaa", sum := "78695696e4690fe629ac0e844f168f932c4a98ee3eb512e23fec85d40841b1fa", func := "bondstore/bondstorelaw05.StampCrash", spec := "stampCrash", inPlace := ["internal/abi.NoEscape", "internal/bytealg.MakeNoZero"], apart := false }
def StampCrashSaid : Prop := stampCrashRow.holds Try.pinned (OpenSpec.ofChange stampCrashSpec)

/-- ITS FALSE NEIGHBOUR: 'it returns false'. Refute it at one input. -/
def stampCrashWrong : ChangeSpec := { name := "stampCrash", fn := fun _ => fun
  | [d1, d2, d3, d4, d5] => { results := [.lit (.bool false)], args := [d1, d2, d3, d4, d5] }
  | _ => none }
def StampCrashWrongFalsely : Prop := stampCrashRow.holds Try.pinned (OpenSpec.ofChange stampCrashWrong)

/-- 'bondstorelaw05.StampRoom': WHATEVER THE INPUT: true; the input reads as it did. -/
def stampRoomSpec : ChangeSpec := { name := "stampRoom", fn := fun _ => fun
  | [d1, d2, d3] => { results := [.lit (.bool true)], args := [d1, d2, d3] }
  | _ => none }
def stampRoomRow : OpenClaim := { program := "ytjaaicklhhpebaa", sum := "78695696e4690fe629ac0e844f168f932c4a98ee3eb512e23fec85d40841b1fa", func := "bondstore/bondstorelaw05.StampRoom", spec := "stampRoom", inPlace := ["internal/abi.NoEscape", "internal/bytealg.MakeNoZero"], apart := false }
def StampRoomSaid : Prop := stampRoomRow.holds Try.pinned (OpenSpec.ofChange stampRoomSpec)

/-- ITS FALSE NEIGHBOUR: 'it returns false'. Refute it at one input. -/
def stampRoomWrong : ChangeSpec := { name := "stampRoom", fn := fun _ => fun
  | [d1, d2, d3] => { results := [.lit (.bool false)], args := [d1, d2, d3] }
  | _ => none }
def StampRoomWrongFalsely : Prop := stampRoomRow.holds Try.pinned (OpenSpec.ofChange stampRoomWrong)

/- THE SECOND FORM. 'bulk': how many values and letters a reading holds, each counted each time it is reached (what is shared counts as often as it is met; a slice's spare places count too). A statement '..UptoSaid' is the law's where the arguments, and the package variables that the reading takes, are together of bulk at most 1048576: NARROWER than '..Said'. Prove '..Said' where nothing that the law and all that it calls make is longer than what came in: it says more and counts as full. Else prove '..UptoSaid'. A law counts once. -/
mutual
def uptoBulk {H : Type} : DataW H → Nat
  | .lit (.string bytes) => bytes.length + 1
  | .lit _ => 1
  | .nil => 1
  | .ptr d => uptoBulk d + 1
  | .slice elems spare => uptoBulkAll elems + uptoBulkAll spare + 1
  | .agg parts => uptoBulkAll parts + 1
  | .iface _ d => uptoBulk d + 1
  | .map entries => uptoBulkEntries entries + 1
  | .held _ => 1
def uptoBulkAll {H : Type} : List (DataW H) → Nat
  | [] => 0
  | d :: r => uptoBulk d + uptoBulkAll r
def uptoBulkEntries {H : Type} : List (Lit × DataW H) → Nat
  | [] => 0
  | x :: r => uptoBulkEntry x + uptoBulkEntries r
def uptoBulkEntry {H : Type} : Lit × DataW H → Nat
  | (.string bytes, d) => bytes.length + uptoBulk d + 1
  | (_, d) => uptoBulk d + 1
 end
def uptoSmall : (H : Type) → List (DataW H) → Bool := fun _ ds => decide (uptoBulkAll ds ≤ 1048576)
def OpenSpec.upto (s : _root_.Go.ChangeSpec) : _root_.Go.OpenSpec := { _root_.Go.OpenSpec.ofChange s with cond := some uptoSmall }

/-- 'bondstorelaw05.StampBytes', WHERE WHAT IT READS IS OF BULK AT MOST 1048576: true; the input reads as it did. -/
def stampBytesUptoRow : OpenClaim := { program := "ytjaaicklhhpebaa", sum := "78695696e4690fe629ac0e844f168f932c4a98ee3eb512e23fec85d40841b1fa", func := "bondstore/bondstorelaw05.StampBytes", spec := "stampBytes", inPlace := ["internal/abi.NoEscape", "internal/bytealg.MakeNoZero"], apart := false, narrowed := true }
def StampBytesUptoSaid : Prop := stampBytesUptoRow.holds Try.pinned (OpenSpec.upto stampBytesSpec)

/-- 'bondstorelaw05.StampReads', WHERE WHAT IT READS IS OF BULK AT MOST 1048576: true; the input reads as it did. -/
def stampReadsUptoRow : OpenClaim := { program := "ytjaaicklhhpebaa", sum := "78695696e4690fe629ac0e844f168f932c4a98ee3eb512e23fec85d40841b1fa", func := "bondstore/bondstorelaw05.StampReads", spec := "stampReads", inPlace := ["internal/abi.NoEscape", "internal/bytealg.MakeNoZero"], apart := false, narrowed := true }
def StampReadsUptoSaid : Prop := stampReadsUptoRow.holds Try.pinned (OpenSpec.upto stampReadsSpec)

/-- 'bondstorelaw05.StampTorn', WHERE WHAT IT READS IS OF BULK AT MOST 1048576: true; the input reads as it did. -/
def stampTornUptoRow : OpenClaim := { program := "ytjaaicklhhpebaa", sum := "78695696e4690fe629ac0e844f168f932c4a98ee3eb512e23fec85d40841b1fa", func := "bondstore/bondstorelaw05.StampTorn", spec := "stampTorn", inPlace := ["internal/abi.NoEscape", "internal/bytealg.MakeNoZero"], apart := false, narrowed := true }
def StampTornUptoSaid : Prop := stampTornUptoRow.holds Try.pinned (OpenSpec.upto stampTornSpec)

/-- 'bondstorelaw05.StampLays', WHERE WHAT IT READS IS OF BULK AT MOST 1048576: true; the input reads as it did. -/
def stampLaysUptoRow : OpenClaim := { program := "ytjaaicklhhpebaa", sum := "78695696e4690fe629ac0e844f168f932c4a98ee3eb512e23fec85d40841b1fa", func := "bondstore/bondstorelaw05.StampLays", spec := "stampLays", inPlace := ["internal/abi.NoEscape", "internal/bytealg.MakeNoZero"], apart := false, narrowed := true }
def StampLaysUptoSaid : Prop := stampLaysUptoRow.holds Try.pinned (OpenSpec.upto stampLaysSpec)

/-- 'bondstorelaw05.StampGreatest', WHERE WHAT IT READS IS OF BULK AT MOST 1048576: true; the input reads as it did. -/
def stampGreatestUptoRow : OpenClaim := { program := "ytjaaicklhhpebaa", sum := "78695696e4690fe629ac0e844f168f932c4a98ee3eb512e23fec85d40841b1fa", func := "bondstore/bondstorelaw05.StampGreatest", spec := "stampGreatest", inPlace := ["internal/abi.NoEscape", "internal/bytealg.MakeNoZero"], apart := false, narrowed := true }
def StampGreatestUptoSaid : Prop := stampGreatestUptoRow.holds Try.pinned (OpenSpec.upto stampGreatestSpec)

/-- 'bondstorelaw05.StampCrash', WHERE WHAT IT READS IS OF BULK AT MOST 1048576: true; the input reads as it did. -/
def stampCrashUptoRow : OpenClaim := { program := "ytjaaicklhhpebaa", sum := "78695696e4690fe629ac0e844f168f932c4a98ee3eb512e23fec85d40841b1fa", func := "bondstore/bondstorelaw05.StampCrash", spec := "stampCrash", inPlace := ["internal/abi.NoEscape", "internal/bytealg.MakeNoZero"], apart := false, narrowed := true }
def StampCrashUptoSaid : Prop := stampCrashUptoRow.holds Try.pinned (OpenSpec.upto stampCrashSpec)

/-- 'bondstorelaw05.StampRoom', WHERE WHAT IT READS IS OF BULK AT MOST 1048576: true; the input reads as it did. -/
def stampRoomUptoRow : OpenClaim := { program := "ytjaaicklhhpebaa", sum := "78695696e4690fe629ac0e844f168f932c4a98ee3eb512e23fec85d40841b1fa", func := "bondstore/bondstorelaw05.StampRoom", spec := "stampRoom", inPlace := ["internal/abi.NoEscape", "internal/bytealg.MakeNoZero"], apart := false, narrowed := true }
def StampRoomUptoSaid : Prop := stampRoomUptoRow.holds Try.pinned (OpenSpec.upto stampRoomSpec)

end Rows
end Go.Proofs.Ytjaaicklhhpebaa
