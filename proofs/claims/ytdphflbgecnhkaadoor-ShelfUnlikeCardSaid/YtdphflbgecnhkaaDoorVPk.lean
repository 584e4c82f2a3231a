/- What every card of layer 1 wants: the variable Most as the program's text lays it, and a number of two words opened. No condition. -/
import Derived.Test.YtdphflbgecnhkaaDoorVAa
import Derived.Test.YtdphflbgecnhkaaDoorVPo
import Derived.Test.YtdphflbgecnhkaaDoorVTie
import Derived.Test.YtdphflbgecnhkaaDoorVCards
import Derived.ProofKit
import Derived.LaidMore
import Derived.OpenShut
import Derived.ShutString
import Derived.ChangeOld
import Derived.Below
import Derived.Lib.SmallJoins
import Derived.Stop.Joined
import Derived.SevenTiedAt
namespace Go.Proofs.YtdphflbgecnhkaaDoor
open Go.ChangeShapes Go.WideShapes Go.ChangeAt Go.WideMaps Go.WideElems Go.RowKit Go.Joins Wm

theorem own : ownKnob Tryd.prog.godebug = none := by kernel_rfl
theorem laidOut : laidOutB Tryd.prog = true := by kernel_rfl
theorem gMost : Tryd.prog.globalNamed "bondstore/wide.Most" = some 0 := by kernel_rfl
theorem tMost : (Tryd.prog.globals[0]?).map (·.type) = some 27 := by kernel_rfl
abbrev laidMost {H : Type} : List (String × DataW H) := [("bondstore/wide.Most", Rows.laid_bondstore_wide_Most)]
theorem door_met (os : Os) (args : Array Value) : laidMetH Tryd.prog laidMost ((World.doorLaid Tryd.prog 400 os).forCall (fun _ _ => 0) ⟨#[], args, []⟩).memory :=
  laidMetH_of_parts3 (fuel := 8) (laidMet_of_run' 8 (by kernel_rfl) (by kernel_rfl)) (by kernel_rfl) (by kernel_rfl)
theorem most_hi : (18446744073709551615 : Int) = ((hiN mostN : Nat) : Int) := by decide +kernel
theorem most_lo : (18446744073709551615 : Int) = ((loN mostN : Nat) : Int) := by decide +kernel
/-- WHAT THE CONDITION GIVES THE WALKS. -/
theorem of_laid {W : World} (h : laidMetH Tryd.prog laidMost W) : Most W := by
  rw [MakeChecks.laidMetH_plain _ _ _ (by kernel_rfl)] at h
  obtain ⟨ps, ⟨g0, t0, cs0, f0, p0, q0, hg0, ht0, hv0, hd0, _, _⟩, _, _⟩ := h
  obtain rfl := Option.some.inj (gMost.symm.trans hg0)
  obtain rfl := Option.some.inj (tMost.symm.trans ht0)
  obtain ⟨y0, y1, n, hx, hsz, h0, h1⟩ := trod_struct2 Tryd.underlying27 hd0
  simp only [Rows.laid_bondstore_wide_Most, Prod.mk.injEq, DataW.agg.injEq, List.cons.injEq] at hx
  obtain ⟨a, e0, k0, _⟩ := DataW.trod_int Tryd.underlying25 h0
  obtain ⟨b, e1, k1, _⟩ := DataW.trod_int Tryd.underlying25 h1
  have cu : Tryd.prog.cellsOf 25 = 1 := by kernel_rfl
  rw [k0, k1] at hx
  simp only [DataW.lit.injEq, Lit.int.injEq, true_and] at hx
  obtain ⟨⟨ha, hb, _⟩, _⟩ := hx
  rw [cellsNum] at hsz
  have c0 := World.var?_cell hg0 hv0 0
  have c1 := World.var?_cell hg0 hv0 1
  obtain ⟨l⟩ := cs0
  match l, hsz with
  | [x0, x1], _ =>
    simp [cu] at e0 e1
    subst e0 e1
    have m0 : W.cell? ⟨0, 0, none⟩ = some (.int .u64 a) := by simpa using c0
    have m1 : W.cell? ⟨0, 1, none⟩ = some (.int .u64 b) := by simpa using c1
    exact ⟨by rw [m0, ← ha, most_hi], by rw [m1, ← hb, most_lo], block_lt_of_cell m0⟩
end Go.Proofs.YtdphflbgecnhkaaDoor
