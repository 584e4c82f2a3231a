/- Acct: an argument of the type api.Account, and of slices of it: what its cells hold. No condition. -/
import Derived.Test.YtdphflbgecnhkaaDoorRows
import Derived.Test.YtdphflbgecnhkaaDoorZWa
import Derived.Deep.Slices
import Derived.ChangeArms
import Derived.ChangeSame
import Derived.OpenShut
import Derived.SizedLaws
import Derived.Below
import Derived.WalkKit
import Derived.KernelRfl
namespace Go.Proofs.YtdphflbgecnhkaaDoor
open Go.RowKit Go.ChangeShapes Go.WideShapes Go.Deep Wm

structure Acct where
  Id : Nat
  DebitsPending : Nat
  DebitsPosted : Nat
  CreditsPending : Nat
  CreditsPosted : Nat
  Ledger : Int
  Code : Int
  Flags : Int
  Stamp : Int
  deriving Inhabited
/-- Its cells. -/
def Acct.cells (x : Acct) : List Value := [.int .u64 ((hiN x.Id : Nat) : Int), .int .u64 ((loN x.Id : Nat) : Int), .int .u64 ((hiN x.DebitsPending : Nat) : Int), .int .u64 ((loN x.DebitsPending : Nat) : Int), .int .u64 ((hiN x.DebitsPosted : Nat) : Int), .int .u64 ((loN x.DebitsPosted : Nat) : Int), .int .u64 ((hiN x.CreditsPending : Nat) : Int), .int .u64 ((loN x.CreditsPending : Nat) : Int), .int .u64 ((hiN x.CreditsPosted : Nat) : Int), .int .u64 ((loN x.CreditsPosted : Nat) : Int), .int .i64 x.Ledger, .int .i64 x.Code, .int .i64 x.Flags, .int .i64 x.Stamp]
theorem Acct.cells_length (x : Acct) : x.cells.length = 14 := rfl
structure Acct.Wf (x : Acct) : Prop where
  Id : x.Id < big
  DebitsPending : x.DebitsPending < big
  DebitsPosted : x.DebitsPosted < big
  CreditsPending : x.CreditsPending < big
  CreditsPosted : x.CreditsPosted < big
  Ledger : -9223372036854775808 ≤ x.Ledger ∧ x.Ledger ≤ 9223372036854775807
  Code : -9223372036854775808 ≤ x.Code ∧ x.Code ≤ 9223372036854775807
  Flags : -9223372036854775808 ≤ x.Flags ∧ x.Flags ≤ 9223372036854775807
  Stamp : -9223372036854775808 ≤ x.Stamp ∧ x.Stamp ≤ 9223372036854775807

section
variable {H : Type} {enc : TypeId × Value → H} {w : World} {base : Nat} {spare : Nat → Bool} {held : Bool}
end

/-- A slice of them in memory. -/
structure AcctsAt (w : World) (ao : Option Addr) (l : List Acct) : Prop where
  spot : ∀ k (h : k < l.length), ∃ b off, ao = some ⟨b, off, none⟩ ∧ b < w.heap.size ∧ ∀ j v, (l[k]).cells[j]? = some v → w.cell? ⟨b, off + k * 14 + j, none⟩ = some v
theorem AcctsAt.later {w w2 : World} {ao : Option Addr} {l : List Acct} (h : AcctsAt w ao l) (hb : Below w.heap.size w w2) : AcctsAt w2 ao l :=
  ⟨fun k hk => by
    obtain ⟨b, off, e, hlt, hc⟩ := h.spot k hk
    exact ⟨b, off, e, Nat.lt_of_lt_of_le hlt hb.size, fun j v hj => by rw [hb.cell (p := ⟨b, off + k * 14 + j, none⟩) hlt]; exact hc j v hj⟩⟩
theorem AcctsAt.below {B : Nat} {w w2 : World} {ao : Option Addr} {l : List Acct} (h : AcctsAt w ao l) (hb : Below B w w2) (hB : w.heap.size ≤ B) : AcctsAt w2 ao l := h.later (hb.mono hB)
section
variable {H : Type} {enc : TypeId × Value → H} {w : World} {base : Nat} {spare : Nat → Bool} {held : Bool}
end
end Go.Proofs.YtdphflbgecnhkaaDoor
