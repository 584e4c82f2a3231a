/- A number of two words that came in as an argument, opened. No condition. -/
import Derived.Test.YtdphflbgecnhkaaDoorRows
import Derived.Test.YtdphflbgecnhkaaDoorZWa
import Derived.ProofKit
import Derived.OpenShut
import Derived.ChangeOld
import Derived.Below
import Derived.Lib.SmallJoins
import Derived.SizedLaws
namespace Go.Proofs.YtdphflbgecnhkaaDoor
open Go.ChangeShapes Go.WideShapes Go.ChangeAt Go.WideMaps Go.WideElems Go.RowKit Go.Joins Wm

theorem cellsNum : Tryd.prog.cellsOf 27 = 2 := by kernel_rfl
/-- A number of two words that came in: its value, its reading, and that its words fit. -/
theorem open_num {H : Type} {enc : TypeId × Value → H} {w : World} {base : Nat} {r : Reach} {b0 : Nat} {spare : Nat → Bool} {held : Bool} {v : Value} {d : DataW H} {p : List MemPlace}
    (hv : Value.okWide Tryd.prog w r b0 27 v) (h : DataW.Trod enc Tryd.prog w base spare held 27 v d p) : ∃ n, n < big ∧ v = numV n := by
  obtain ⟨c0, c1, y0, y1, m, rfl, rfl, rfl, hy0, hy1⟩ := open_agg2 Tryd.underlying27 (by kernel_rfl) cellsNum hv h
  obtain ⟨a, e0, rfl, wa⟩ := DataW.trod_int Tryd.underlying25 hy0
  obtain ⟨b, e1, rfl, wb⟩ := DataW.trod_int Tryd.underlying25 hy1
  simp at e0 e1
  subst e0 e1
  have ba := bounds_u64 wa
  have bb := bounds_u64 wb
  obtain ⟨x, rfl⟩ := Int.eq_ofNat_of_zero_le ba.1
  obtain ⟨y, rfl⟩ := Int.eq_ofNat_of_zero_le bb.1
  have hx : x < 18446744073709551616 := by omega
  have hy : y < 18446744073709551616 := by omega
  exact ⟨num x y, num_lt hx hy, by rw [numV, hiN_num hy, loN_num hy]⟩
end Go.Proofs.YtdphflbgecnhkaaDoor
