/-
  No cell of these rows narrows 'for every input' (looked for: loops, veiled, ifaces, maps, wideKeys, modest, calm, conditions, laid).
  DERIVED. THE GIVEN ROWS OF THIS SEAT. 4 by the template 'for every input the law returns true; each argument reads behind the call as it read before'; 0 by the template 'total and deterministic' (their statements: YtkahohgbcnchiaaTotals.lean).
  GIVEN WITH THE SEED: the statements are not yours to turn. If you find one false, say at which input.
  Laid BY PROGRAM, IN A SANDBOX (cutbox-rows.mjs): the forced cells as the released guide's own fill.sh prints them over the translation 628f9bd2ccefa419… (all of the seat's roots in one cut). By AI agents, Wed Nov 11 2026. No macro, syntax, notation, axiom, sorry.
-/
import Derived.Test.YtkahohgbcnchiaaChecked
import GoSem.Claim
import GoSem.ClaimJoined
import GoSem.ClaimMapViews
import Derived.JoinedTies
import Derived.KernelRfl
namespace Go.Proofs.Ytkahohgbcnchiaa
/- THE CELL 'sum', in the pinned program and in every row, IS THE sha256 OF THE DUMP (.gsa) THAT YtkahohgbcnchiaaProg.lean LOADS. Nothing in Lean hashes anything: it is a label: what it is worth is what the hold of that sum in a sandbox is worth. -/
noncomputable def Try.pinned : Pinned := { name := "ytkahohgbcnchiaa", sum := "628f9bd2ccefa4198d023aa8c5366033000125fef062dcc29f26a24081ad428f", checked := Try.checked }
namespace Rows
def none {H : Type} : Left H := { results := [], args := [] }

/-- 'bondstorelaw14.UndoDoes': WHATEVER THE INPUT: true; the input reads as it did. -/
def undoDoesSpec : ChangeSpec := { name := "undoDoes", fn := fun _ => fun
  | [d] => { results := [.lit (.bool true)], args := [d] }
  | _ => none }
def undoDoesRow : OpenClaim := { program := "ytkahohgbcnchiaa", sum := "628f9bd2ccefa4198d023aa8c5366033000125fef062dcc29f26a24081ad428f", func := "bondstore/bondstorelaw14.UndoDoes", spec := "undoDoes", unfollowed := true, recurses := true, apart := false }
def UndoDoesSaid : Prop := undoDoesRow.holds Try.pinned (OpenSpec.ofChange undoDoesSpec)

/-- ITS FALSE NEIGHBOUR: 'it returns false'. Refute it at one input. -/
def undoDoesWrong : ChangeSpec := { name := "undoDoes", fn := fun _ => fun
  | [d] => { results := [.lit (.bool false)], args := [d] }
  | _ => none }
def UndoDoesWrongFalsely : Prop := undoDoesRow.holds Try.pinned (OpenSpec.ofChange undoDoesWrong)

/-- 'bondstorelaw14.UndoBack': WHATEVER THE INPUT: true; the input reads as it did. -/
def undoBackSpec : ChangeSpec := { name := "undoBack", fn := fun _ => fun
  | [d1, d2] => { results := [.lit (.bool true)], args := [d1, d2] }
  | _ => none }
def undoBackRow : OpenClaim := { program := "ytkahohgbcnchiaa", sum := "628f9bd2ccefa4198d023aa8c5366033000125fef062dcc29f26a24081ad428f", func := "bondstore/bondstorelaw14.UndoBack", spec := "undoBack", unfollowed := true, recurses := true, apart := false }
def UndoBackSaid : Prop := undoBackRow.holds Try.pinned (OpenSpec.ofChange undoBackSpec)

/-- ITS FALSE NEIGHBOUR: 'it returns false'. Refute it at one input. -/
def undoBackWrong : ChangeSpec := { name := "undoBack", fn := fun _ => fun
  | [d1, d2] => { results := [.lit (.bool false)], args := [d1, d2] }
  | _ => none }
def UndoBackWrongFalsely : Prop := undoBackRow.holds Try.pinned (OpenSpec.ofChange undoBackWrong)

/-- 'bondstorelaw14.UndoFree': WHATEVER THE INPUT: true; the input reads as it did. -/
def undoFreeSpec : ChangeSpec := { name := "undoFree", fn := fun _ => fun
  | [d] => { results := [.lit (.bool true)], args := [d] }
  | _ => none }
def undoFreeRow : OpenClaim := { program := "ytkahohgbcnchiaa", sum := "628f9bd2ccefa4198d023aa8c5366033000125fef062dcc29f26a24081ad428f", func := "bondstore/bondstorelaw14.UndoFree", spec := "undoFree", unfollowed := true, recurses := true, apart := false }
def UndoFreeSaid : Prop := undoFreeRow.holds Try.pinned (OpenSpec.ofChange undoFreeSpec)

/-- ITS FALSE NEIGHBOUR: 'it returns false'. Refute it at one input. -/
def undoFreeWrong : ChangeSpec := { name := "undoFree", fn := fun _ => fun
  | [d] => { results := [.lit (.bool false)], args := [d] }
  | _ => none }
def UndoFreeWrongFalsely : Prop := undoFreeRow.holds Try.pinned (OpenSpec.ofChange undoFreeWrong)

/-- 'bondstorelaw14.UndoNested': WHATEVER THE INPUT: true; the input reads as it did. -/
def undoNestedSpec : ChangeSpec := { name := "undoNested", fn := fun _ => fun
  | [d1, d2, d3] => { results := [.lit (.bool true)], args := [d1, d2, d3] }
  | _ => none }
def undoNestedRow : OpenClaim := { program := "ytkahohgbcnchiaa", sum := "628f9bd2ccefa4198d023aa8c5366033000125fef062dcc29f26a24081ad428f", func := "bondstore/bondstorelaw14.UndoNested", spec := "undoNested", unfollowed := true, recurses := true, apart := false }
def UndoNestedSaid : Prop := undoNestedRow.holds Try.pinned (OpenSpec.ofChange undoNestedSpec)

/-- ITS FALSE NEIGHBOUR: 'it returns false'. Refute it at one input. -/
def undoNestedWrong : ChangeSpec := { name := "undoNested", fn := fun _ => fun
  | [d1, d2, d3] => { results := [.lit (.bool false)], args := [d1, d2, d3] }
  | _ => none }
def UndoNestedWrongFalsely : Prop := undoNestedRow.holds Try.pinned (OpenSpec.ofChange undoNestedWrong)

/- THE SECOND FORM. 'bulk': how many values and letters a reading holds, each counted each time it is reached (what is shared counts as often as it is met; a slice's spare places count too). A statement '..UptoSaid' is the law's where the arguments, and the package variables that the reading takes, are together of bulk at most 1048576: NARROWER than '..Said'. Prove '..Said' where nothing that the law and all that it calls make is longer than what came in: it says more and counts as full. Else prove '..UptoSaid'. A law counts once. -/
mutual
def uptoBulk {H : Type} : DataW H → Nat
  | .lit (.string bytes) => bytes.length + 1
  | .lit _ => 1
  | .nil => 1
  | .ptr d => uptoBulk d + 1
  | .slice elems spare => uptoBulkAll elems + uptoBulkAll spare + 1
  | .agg parts => uptoBulkAll parts + 1
  | .iface _ d => uptoBulk d + 1
  | .map entries => uptoBulkEntries entries + 1
  | .held _ => 1
def uptoBulkAll {H : Type} : List (DataW H) → Nat
  | [] => 0
  | d :: r => uptoBulk d + uptoBulkAll r
def uptoBulkEntries {H : Type} : List (Lit × DataW H) → Nat
  | [] => 0
  | x :: r => uptoBulkEntry x + uptoBulkEntries r
def uptoBulkEntry {H : Type} : Lit × DataW H → Nat
  | (.string bytes, d) => bytes.length + uptoBulk d + 1
  | (_, d) => uptoBulk d + 1
 end
def uptoSmall : (H : Type) → List (DataW H) → Bool := fun _ ds => decide (uptoBulkAll ds ≤ 1048576)
def OpenSpec.upto (s : _root_.Go.ChangeSpec) : _root_.Go.OpenSpec := { _root_.Go.OpenSpec.ofChange s with cond := some uptoSmall }

/-- 'bondstorelaw14.UndoDoes', WHERE WHAT IT READS IS OF BULK AT MOST 1048576: true; the input reads as it did. -/
def undoDoesUptoRow : OpenClaim := { program := "ytkahohgbcnchiaa", sum := "628f9bd2ccefa4198d023aa8c5366033000125fef062dcc29f26a24081ad428f", func := "bondstore/bondstorelaw14.UndoDoes", spec := "undoDoes", unfollowed := true, recurses := true, apart := false, narrowed := true }
def UndoDoesUptoSaid : Prop := undoDoesUptoRow.holds Try.pinned (OpenSpec.upto undoDoesSpec)

/-- 'bondstorelaw14.UndoBack', WHERE WHAT IT READS IS OF BULK AT MOST 1048576: true; the input reads as it did. -/
def undoBackUptoRow : OpenClaim := { program := "ytkahohgbcnchiaa", sum := "628f9bd2ccefa4198d023aa8c5366033000125fef062dcc29f26a24081ad428f", func := "bondstore/bondstorelaw14.UndoBack", spec := "undoBack", unfollowed := true, recurses := true, apart := false, narrowed := true }
def UndoBackUptoSaid : Prop := undoBackUptoRow.holds Try.pinned (OpenSpec.upto undoBackSpec)

/-- 'bondstorelaw14.UndoFree', WHERE WHAT IT READS IS OF BULK AT MOST 1048576: true; the input reads as it did. -/
def undoFreeUptoRow : OpenClaim := { program := "ytkahohgbcnchiaa", sum := "628f9bd2ccefa4198d023aa8c5366033000125fef062dcc29f26a24081ad428f", func := "bondstore/bondstorelaw14.UndoFree", spec := "undoFree", unfollowed := true, recurses := true, apart := false, narrowed := true }
def UndoFreeUptoSaid : Prop := undoFreeUptoRow.holds Try.pinned (OpenSpec.upto undoFreeSpec)

/-- 'bondstorelaw14.UndoNested', WHERE WHAT IT READS IS OF BULK AT MOST 1048576: true; the input reads as it did. -/
def undoNestedUptoRow : OpenClaim := { program := "ytkahohgbcnchiaa", sum := "628f9bd2ccefa4198d023aa8c5366033000125fef062dcc29f26a24081ad428f", func := "bondstore/bondstorelaw14.UndoNested", spec := "undoNested", unfollowed := true, recurses := true, apart := false, narrowed := true }
def UndoNestedUptoSaid : Prop := undoNestedUptoRow.holds Try.pinned (OpenSpec.upto undoNestedSpec)

end Rows
end Go.Proofs.Ytkahohgbcnchiaa
