/- Stage 13: what the walks of the laws ask of the landed queue. No condition but the landed package's. -/
import Derived.Test.YtgdlcfkgdaaooaaPqp
import Derived.Test.YtgdlcfkgdaaooaaRo
namespace Go.Proofs.Ytgdlcfkgdaaooaa
open Go.RowKit Wm

/-- An item's value; what Pop and First answer. -/
def itemV (x : Qit) : Value := .agg x.cells.toArray
def zeroQ : Qit := ⟨0, 0, 0⟩
def popV (r : Option Qit) : Value := .tuple #[itemV (r.getD zeroQ), .bool r.isSome]
/-- The landed queue. (Of at most 10000 items at a time.) -/
structure LandedQu (O : Kind (List Qit)) : Prop extends IsKind O where
  once : ∀ F W p m, O F W p m → OnceQ m
  new : ∀ W : World, O (fun k => k = W.heap.size) (W.alloc (.cells #[.slice none 0 0] 28)) W.heap.size []
  put : ∀ F W p m (x : Qit), O F W p m → m.length ≤ 10000 → x.Wf → x.Stamp ∉ m.map Qit.Stamp →
    Calls Try.prog 9 #[.pointer (some ⟨p, 0, none⟩), itemV x] W fun e W' => e = .returned (.tuple #[]) ∧ PostO O F p (m ++ [x]) W W'
  drop : ∀ F W p m (s : Int), O F W p m → -9223372036854775808 ≤ s → s ≤ 9223372036854775807 →
    Calls Try.prog 10 #[.pointer (some ⟨p, 0, none⟩), .int .i64 s] W fun e W' => e = .returned (.bool (hasQ m s)) ∧ PostO O F p (dropQ m s) W W'
  pop : ∀ F W p m (now : Int), O F W p m → -9223372036854775808 ≤ now → now ≤ 9223372036854775807 →
    Calls Try.prog 12 #[.pointer (some ⟨p, 0, none⟩), .int .i64 now] W fun e W' => e = .returned (popV (popR m now)) ∧ PostO O F p (popQ m now) W W'
  len : ∀ F W p m, O F W p m → Calls Try.prog 15 #[.pointer (some ⟨p, 0, none⟩)] W fun e W' => e = .returned (.int .i64 ((m.length : Nat) : Int)) ∧ Below W.heap.size W W'
  first : ∀ F W p m, O F W p m → Calls Try.prog 14 #[.pointer (some ⟨p, 0, none⟩)] W fun e W' => e = .returned (popV (bestQ m)) ∧ Below W.heap.size W W'
/-- Of a nil one. -/
structure LandedQuNil : Prop where
  put : ∀ (x : Qit) (W : World), Calls Try.prog 9 #[.pointer none, itemV x] W fun e W' => e = .returned (.tuple #[]) ∧ Below W.heap.size W W'
  drop : ∀ (s : Int) (W : World), Calls Try.prog 10 #[.pointer none, .int .i64 s] W fun e W' => e = .returned (.bool false) ∧ Below W.heap.size W W'
  pop : ∀ (now : Int) (W : World), Calls Try.prog 12 #[.pointer none, .int .i64 now] W fun e W' => e = .returned (popV none) ∧ Below W.heap.size W W'
  len : ∀ (W : World), Calls Try.prog 15 #[.pointer none] W fun e W' => e = .returned (.int .i64 0) ∧ Below W.heap.size W W'
  first : ∀ (W : World), Calls Try.prog 14 #[.pointer none] W fun e W' => e = .returned (popV none) ∧ Below W.heap.size W W'
end Go.Proofs.Ytgdlcfkgdaaooaa
