/- What every card of layer 1 wants: the variable Most as the program's text lays it, and a number of two words opened. No condition. -/
import Derived.Test.YtddjogbenfkcpaaDoorWe
import Derived.ProofKit
import Derived.LaidMore
import Derived.OpenShut
import Derived.ShutString
import Derived.ChangeOld
import Derived.Below
import Derived.Lib.SmallJoins
import Derived.Stop.Joined
import Derived.SevenTiedAt
import Derived.Test.YtddjogbenfkcpaaDoorTie
import Derived.Test.YtddjogbenfkcpaaDoorCards
namespace Go.Proofs.YtddjogbenfkcpaaDoor
open Go.ChangeShapes Go.WideShapes Go.ChangeAt Go.WideMaps Go.WideElems Go.RowKit Go.Joins Wm

theorem own : ownKnob Tryd.prog.godebug = none := by kernel_rfl
theorem laidOut : laidOutB Tryd.prog = true := by kernel_rfl
theorem gMost : Tryd.prog.globalNamed "bondstore/wide.Most" = some 0 := by kernel_rfl
theorem tMost : (Tryd.prog.globals[0]?).map (·.type) = some 24 := by kernel_rfl
theorem cellsNum : Tryd.prog.cellsOf 24 = 2 := by kernel_rfl
abbrev laidMost {H : Type} : List (String × DataW H) := [("bondstore/wide.Most", Rows.laid_bondstore_wide_Most)]
theorem door_met (os : Os) (args : Array Value) : laidMetH Tryd.prog laidMost ((World.doorLaid Tryd.prog 400 os).forCall (fun _ _ => 0) ⟨#[], args, []⟩).memory :=
  laidMetH_of_parts3 (fuel := 8) (laidMet_of_run' 8 (by kernel_rfl) (by kernel_rfl)) (by kernel_rfl) (by kernel_rfl)
theorem most_hi : (18446744073709551615 : Int) = ((hiN mostN : Nat) : Int) := by decide +kernel
theorem most_lo : (18446744073709551615 : Int) = ((loN mostN : Nat) : Int) := by decide +kernel
/-- WHAT THE CONDITION GIVES THE WALKS. -/
theorem of_laid {W : World} (h : laidMetH Tryd.prog laidMost W) : Most W := by
  rw [MakeChecks.laidMetH_plain _ _ _ (by kernel_rfl)] at h
  obtain ⟨ps, ⟨g0, t0, cs0, f0, p0, q0, hg0, ht0, hv0, hd0, _, _⟩, _, _⟩ := h
  obtain rfl := Option.some.inj (gMost.symm.trans hg0)
  obtain rfl := Option.some.inj (tMost.symm.trans ht0)
  obtain ⟨y0, y1, n, hx, hsz, h0, h1⟩ := trod_struct2 Tryd.underlying24 hd0
  simp only [Rows.laid_bondstore_wide_Most, Prod.mk.injEq, DataW.agg.injEq, List.cons.injEq] at hx
  obtain ⟨a, e0, k0, _⟩ := DataW.trod_int Tryd.underlying22 h0
  obtain ⟨b, e1, k1, _⟩ := DataW.trod_int Tryd.underlying22 h1
  have cu : Tryd.prog.cellsOf 22 = 1 := by kernel_rfl
  rw [k0, k1] at hx
  simp only [DataW.lit.injEq, Lit.int.injEq, true_and] at hx
  obtain ⟨⟨ha, hb, _⟩, _⟩ := hx
  rw [cellsNum] at hsz
  have c0 := World.var?_cell hg0 hv0 0
  have c1 := World.var?_cell hg0 hv0 1
  obtain ⟨l⟩ := cs0
  match l, hsz with
  | [x0, x1], _ =>
    simp [cu] at e0 e1
    subst e0 e1
    have m0 : W.cell? ⟨0, 0, none⟩ = some (.int .u64 a) := by simpa using c0
    have m1 : W.cell? ⟨0, 1, none⟩ = some (.int .u64 b) := by simpa using c1
    exact ⟨by rw [m0, ← ha, most_hi], by rw [m1, ← hb, most_lo], block_lt_of_cell m0⟩

/-- A number of two words that came in: its value, its reading, and that its words fit. -/
theorem open_num {H : Type} {enc : TypeId × Value → H} {w : World} {base : Nat} {r : Reach} {b0 : Nat} {spare : Nat → Bool} {held : Bool} {v : Value} {d : DataW H} {p : List MemPlace}
    (hv : Value.okWide Tryd.prog w r b0 24 v) (h : DataW.Trod enc Tryd.prog w base spare held 24 v d p) : ∃ n, n < big ∧ v = numV n := by
  obtain ⟨c0, c1, y0, y1, m, rfl, rfl, rfl, hy0, hy1⟩ := open_agg2 Tryd.underlying24 (by kernel_rfl) cellsNum hv h
  obtain ⟨a, e0, rfl, wa⟩ := DataW.trod_int Tryd.underlying22 hy0
  obtain ⟨b, e1, rfl, wb⟩ := DataW.trod_int Tryd.underlying22 hy1
  simp at e0 e1
  subst e0 e1
  have ba := bounds_u64 wa
  have bb := bounds_u64 wb
  obtain ⟨x, rfl⟩ := Int.eq_ofNat_of_zero_le ba.1
  obtain ⟨y, rfl⟩ := Int.eq_ofNat_of_zero_le bb.1
  have hx : x < 18446744073709551616 := by omega
  have hy : y < 18446744073709551616 := by omega
  exact ⟨num x y, num_lt hx hy, by rw [numV, hiN_num hy, loN_num hy]⟩
end Go.Proofs.YtddjogbenfkcpaaDoor
