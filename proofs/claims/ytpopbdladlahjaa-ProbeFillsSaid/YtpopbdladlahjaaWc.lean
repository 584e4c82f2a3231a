/- Division by ten. -/
import Derived.Test.YtpopbdladlahjaaWb
import Derived.Lib.Mul64
import Derived.Deep.DeepCutAuto
import Derived.IntWalk
import Derived.Shelf.Bits.Mul64
namespace Go.Proofs.Ytpopbdladlahjaa
open Go.RowKit Go.Sort Wm

theorem ret_uu {a b c d : Int} (h1 : a = c) (h2 : b = d) : Ending.returned (.tuple #[.int .u64 a, .int .u64 b]) = .returned (.tuple #[.int .u64 c, .int .u64 d]) := by rw [h1, h2]
end Go.Proofs.Ytpopbdladlahjaa
