/- The contracts of layer 1's small functions. No condition but the words' sizes. -/
import Derived.Test.YtdphflbgecnhkaaDoorRows
import Derived.Test.YtdphflbgecnhkaaDoorZMath
import Derived.WalkKit
import Derived.WalkSpells
import Derived.WalkLawsBesides
import Derived.Lib.QuietBelow
import Derived.Lib.Hide
import Derived.BigQuiet
import Derived.Laws.Externs
import Derived.Shelf.Spec.BitsCarry
namespace Go.Proofs.YtdphflbgecnhkaaDoor
open Go.RowKit Go.Sort Wm

theorem bit_any (n i : Nat) (hi : i < 128) (w : World) :
    Calls Tryd.prog 19 #[numV n, .int .i64 i] w fun e w' => e = .returned (.int .i64 ((bitN n i : Nat) : Int)) ∧ Below w.heap.size w w' := by
  by_cases h1 : 64 ≤ i
  · have hb := Lib.hid (walk_bit_hi n i h1)
    go_enter Tryd.func19, Tryd.ntmps19
    go_wp2
    go_ret
    exact ⟨by simp [hb.out], (Below.refl _ _).alloc (Nat.le_refl _) _⟩
  · have h2 : i < 64 := by omega
    have hb := Lib.hid (walk_bit_lo n i h2)
    clear h1
    go_enter Tryd.func19, Tryd.ntmps19
    go_wp2
    go_ret
    exact ⟨by simp [hb.out], (Below.refl _ _).alloc (Nat.le_refl _) _⟩

end Go.Proofs.YtdphflbgecnhkaaDoor
