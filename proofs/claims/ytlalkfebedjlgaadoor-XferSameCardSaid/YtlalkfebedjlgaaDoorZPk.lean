/- What every law of layer 1 asks first: that the document's own answer is given. The greatest number lies in the program's variable. -/
/-
  DERIVED. GIVEN WITH THE SEED: THE PROGRAM's TIES (one call each: nine closed facts by the kernel) AND EACH ROW's TIE, after the 31st guide's Derived/Test/Toyas{Tie, Card}.lean. No idea stands in it: it is a product of the set-up. Laid BY PROGRAM, IN A SANDBOX (cutbox-door.mjs). By AI agents, Wed Nov 11 2026. No macro, syntax, notation, axiom, sorry.
-/
/- What every card of layer 1 wants: the variable Most as the program's text lays it, and a number of two words opened. No condition. -/
import Derived.Test.YtlalkfebedjlgaaDoorRows
import Derived.Test.YtlalkfebedjlgaaDoorZWd
import Derived.Test.YtlalkfebedjlgaaDoorZCards
import Derived.RegionTactic
import Derived.Deep.RegionWith
import Derived.Deep.RegionHeld3
import Derived.LaidByTextLater
import Derived.SevenTiedAt
import Derived.LaidSub
import Derived.LaidOnce
import Derived.ProofKit
import Derived.LaidMore
import Derived.OpenShut
import Derived.ShutString
import Derived.ChangeOld
import Derived.Below
import Derived.Lib.SmallJoins
import Derived.Stop.Joined
namespace Go.Proofs.YtlalkfebedjlgaaDoor
open Go.RowKit Go.Sort Wm

def mostN : Nat := 340282366920938463463374607431768211455
theorem most_lt : mostN < big := by unfold mostN; rw [big_eq]; omega
/-- The variable Most holds the greatest number. -/
structure Most (w : World) : Prop where
  m0 : w.cell? ⟨0, 0, none⟩ = some (.int .u64 ((hiN mostN : Nat) : Int))
  m1 : w.cell? ⟨0, 1, none⟩ = some (.int .u64 ((loN mostN : Nat) : Int))
  lt : 0 < w.heap.size
theorem Most.later {w w2 : World} (h : Most w) (hb : Below w.heap.size w w2) : Most w2 :=
  ⟨by rw [hb.cell (by exact h.lt)]; exact h.m0, by rw [hb.cell (by exact h.lt)]; exact h.m1, Nat.lt_of_lt_of_le h.lt hb.size⟩
theorem show_most_text : showN mostN = ⟨#[51, 52, 48, 50, 56, 50, 51, 54, 54, 57, 50, 48, 57, 51, 56, 52, 54, 51, 52, 54, 51, 51, 55, 52, 54, 48, 55, 52, 51, 49, 55, 54, 56, 50, 49, 49, 52, 53, 53]⟩ := by decide +kernel
end Go.Proofs.YtlalkfebedjlgaaDoor
namespace Go.Proofs.YtlalkfebedjlgaaDoor
open Go
set_option maxRecDepth 100000
theorem seatTie1 : Tryd.prog.laidByTextLater [("bondstore/wide.Most", Rows.laid_bondstore_wide_Most)] [.data] true :=
  Program.laidByTextLater_by_one 14 8 3 (by kernel_rfl) (by kernel_rfl) (by kernel_rfl) (by kernel_rfl) (by kernel_rfl) (by kernel_rfl) (fun _ _ => by kernel_rfl)
theorem noOwnUnsafe : Tryd.pinned.checked.prog.headLifts.contains "ownunsafe" = false := by kernel_rfl
theorem tie : Tryd.prog.laidByTextLater [("bondstore/wide.Most", Rows.laid_bondstore_wide_Most)] [.data] true :=
  Program.laidByTextLater.sub seatTie1 ["bondstore/wide.Most"] (by kernel_rfl) (by kernel_rfl)
theorem xferChecks_row_tie : Rows.xferChecksRow.laidByTextAt .later Tryd.pinned [.data] true :=
  OpenClaim.laidByTextAt_later rfl rfl tie noOwnUnsafe
theorem xferKinds_row_tie : Rows.xferKindsRow.laidByTextAt .later Tryd.pinned [.data] true :=
  OpenClaim.laidByTextAt_later rfl rfl tie noOwnUnsafe
theorem xferAgain_row_tie : Rows.xferAgainRow.laidByTextAt .later Tryd.pinned [.data] true :=
  OpenClaim.laidByTextAt_later rfl rfl tie noOwnUnsafe
theorem xferBytes_row_tie : Rows.xferBytesRow.laidByTextAt .later Tryd.pinned [.data] true :=
  OpenClaim.laidByTextAt_later rfl rfl tie noOwnUnsafe
theorem xferTakes_row_tie : Rows.xferTakesRow.laidByTextAt .later Tryd.pinned [.data] true :=
  OpenClaim.laidByTextAt_later rfl rfl tie noOwnUnsafe
theorem xferSame_row_tie : Rows.xferSameRow.laidByTextAt .later Tryd.pinned [.data] true :=
  OpenClaim.laidByTextAt_later rfl rfl tie noOwnUnsafe
end Go.Proofs.YtlalkfebedjlgaaDoor
namespace Go.Proofs.YtlalkfebedjlgaaDoor
open Go.ChangeShapes Go.WideShapes Go.ChangeAt Go.WideMaps Go.WideElems Go.RowKit Go.Joins Wm

theorem own : ownKnob Tryd.prog.godebug = none := by kernel_rfl
theorem laidOut : laidOutB Tryd.prog = true := by kernel_rfl
theorem gMost : Tryd.prog.globalNamed "bondstore/wide.Most" = some 0 := by kernel_rfl
theorem tMost : (Tryd.prog.globals[0]?).map (·.type) = some 24 := by kernel_rfl
theorem cellsNum : Tryd.prog.cellsOf 24 = 2 := by kernel_rfl
abbrev laidMost {H : Type} : List (String × DataW H) := [("bondstore/wide.Most", Rows.laid_bondstore_wide_Most)]
theorem door_met (os : Os) (args : Array Value) : laidMetH Tryd.prog laidMost ((World.doorLaid Tryd.prog 400 os).forCall (fun _ _ => 0) ⟨#[], args, []⟩).memory :=
  laidMetH_of_parts3 (fuel := 8) (laidMet_of_run' 8 (by kernel_rfl) (by kernel_rfl)) (by kernel_rfl) (by kernel_rfl)
theorem most_hi : (18446744073709551615 : Int) = ((hiN mostN : Nat) : Int) := by decide +kernel
theorem most_lo : (18446744073709551615 : Int) = ((loN mostN : Nat) : Int) := by decide +kernel
/-- WHAT THE CONDITION GIVES THE WALKS. -/
theorem of_laid {W : World} (h : laidMetH Tryd.prog laidMost W) : Most W := by
  rw [MakeChecks.laidMetH_plain _ _ _ (by kernel_rfl)] at h
  obtain ⟨ps, ⟨g0, t0, cs0, f0, p0, q0, hg0, ht0, hv0, hd0, _, _⟩, _, _⟩ := h
  obtain rfl := Option.some.inj (gMost.symm.trans hg0)
  obtain rfl := Option.some.inj (tMost.symm.trans ht0)
  obtain ⟨y0, y1, n, hx, hsz, h0, h1⟩ := trod_struct2 Tryd.underlying24 hd0
  simp only [Rows.laid_bondstore_wide_Most, Prod.mk.injEq, DataW.agg.injEq, List.cons.injEq] at hx
  obtain ⟨a, e0, k0, _⟩ := DataW.trod_int Tryd.underlying22 h0
  obtain ⟨b, e1, k1, _⟩ := DataW.trod_int Tryd.underlying22 h1
  have cu : Tryd.prog.cellsOf 22 = 1 := by kernel_rfl
  rw [k0, k1] at hx
  simp only [DataW.lit.injEq, Lit.int.injEq, true_and] at hx
  obtain ⟨⟨ha, hb, _⟩, _⟩ := hx
  rw [cellsNum] at hsz
  have c0 := World.var?_cell hg0 hv0 0
  have c1 := World.var?_cell hg0 hv0 1
  obtain ⟨l⟩ := cs0
  match l, hsz with
  | [x0, x1], _ =>
    simp [cu] at e0 e1
    subst e0 e1
    have m0 : W.cell? ⟨0, 0, none⟩ = some (.int .u64 a) := by simpa using c0
    have m1 : W.cell? ⟨0, 1, none⟩ = some (.int .u64 b) := by simpa using c1
    exact ⟨by rw [m0, ← ha, most_hi], by rw [m1, ← hb, most_lo], block_lt_of_cell m0⟩

end Go.Proofs.YtlalkfebedjlgaaDoor
