/- The contracts of layer 1's small functions. No condition but the words' sizes. -/
import Derived.Test.YtpopbdladlahjaaRows
import Derived.Test.YtpopbdladlahjaaMath
import Derived.WalkKit
import Derived.WalkSpells
import Derived.WalkLawsBesides
import Derived.Lib.QuietBelow
import Derived.Lib.Hide
import Derived.BigQuiet
import Derived.Laws.Externs
import Derived.Shelf.Spec.BitsCarry
namespace Go.Proofs.Ytpopbdladlahjaa
open Go.RowKit Go.Sort Wm

end Go.Proofs.Ytpopbdladlahjaa
