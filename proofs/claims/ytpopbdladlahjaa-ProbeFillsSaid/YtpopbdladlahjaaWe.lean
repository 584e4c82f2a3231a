/- What every law of layer 1 asks first: that the document's own answer is given. The greatest number lies in the program's variable. -/
import Derived.Test.YtpopbdladlahjaaWd
import Derived.RegionTactic
import Derived.Deep.RegionWith
import Derived.Deep.RegionHeld3
namespace Go.Proofs.Ytpopbdladlahjaa
open Go.RowKit Go.Sort Wm

theorem bcell {W w1 : World} (hb : Below W.heap.size W w1) : (∀ b o, b < W.heap.size → w1.cell? ⟨b, o, none⟩ = W.cell? ⟨b, o, none⟩) ∧ (∀ b o, b < W.heap.size → w1.frozen? ⟨b, o, none⟩ = W.frozen? ⟨b, o, none⟩) ∧ (∀ b, b < W.heap.size → b < w1.heap.size) :=
  ⟨fun b o h => hb.cell (p := ⟨b, o, none⟩) h, fun b o h => hb.frozen (p := ⟨b, o, none⟩) h, fun _ h => Nat.lt_of_lt_of_le h hb.size⟩
def mostN : Nat := 340282366920938463463374607431768211455
theorem most_lt : mostN < big := by unfold mostN; rw [big_eq]; omega
theorem show_most_text : showN mostN = ⟨#[51, 52, 48, 50, 56, 50, 51, 54, 54, 57, 50, 48, 57, 51, 56, 52, 54, 51, 52, 54, 51, 51, 55, 52, 54, 48, 55, 52, 51, 49, 55, 54, 56, 50, 49, 49, 52, 53, 53]⟩ := by decide +kernel
theorem keep_call {w W wx : World} {A B : Prop} (h : A ∧ B ∧ Below w.heap.size w W) (hb : Below W.heap.size W wx) : Below w.heap.size w wx := h.2.2.trans (hb.mono h.2.2.size)
theorem keep_alloc {w W : World} {A B : Prop} (h : A ∧ B ∧ Below w.heap.size w W) (o : Obj) : Below w.heap.size w (W.alloc o) := h.2.2.alloc h.2.2.size o
theorem keep_put {w W : World} {A B : Prop} (h : A ∧ B ∧ Below w.heap.size w W) {c : Nat} (hc : w.heap.size ≤ c) (x y : Value) : Below w.heap.size w ((W.setCell ⟨c, 0, none⟩ x).setCell ⟨c, 1, none⟩ y) := bl_put h.2.2 hc
theorem keep_drew {w W : World} {A B : Prop} (h : A ∧ B ∧ Below w.heap.size w W) : Below w.heap.size w W.drew := h.2.2.drew
end Go.Proofs.Ytpopbdladlahjaa
