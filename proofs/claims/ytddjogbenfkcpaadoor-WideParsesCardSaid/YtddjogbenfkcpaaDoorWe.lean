/- What every law of layer 1 asks first: that the document's own answer is given. The greatest number lies in the program's variable. -/
import Derived.Test.YtddjogbenfkcpaaDoorWd
import Derived.RegionTactic
import Derived.Deep.RegionWith
import Derived.Deep.RegionHeld3
namespace Go.Proofs.YtddjogbenfkcpaaDoor
open Go.RowKit Go.Sort Wm

theorem bcell {W w1 : World} (hb : Below W.heap.size W w1) : (∀ b o, b < W.heap.size → w1.cell? ⟨b, o, none⟩ = W.cell? ⟨b, o, none⟩) ∧ (∀ b o, b < W.heap.size → w1.frozen? ⟨b, o, none⟩ = W.frozen? ⟨b, o, none⟩) ∧ (∀ b, b < W.heap.size → b < w1.heap.size) :=
  ⟨fun b o h => hb.cell (p := ⟨b, o, none⟩) h, fun b o h => hb.frozen (p := ⟨b, o, none⟩) h, fun _ h => Nat.lt_of_lt_of_le h hb.size⟩
def mostN : Nat := 340282366920938463463374607431768211455
theorem most_lt : mostN < big := by unfold mostN; rw [big_eq]; omega
/-- The variable Most holds the greatest number. -/
structure Most (w : World) : Prop where
  m0 : w.cell? ⟨0, 0, none⟩ = some (.int .u64 ((hiN mostN : Nat) : Int))
  m1 : w.cell? ⟨0, 1, none⟩ = some (.int .u64 ((loN mostN : Nat) : Int))
  lt : 0 < w.heap.size
theorem Most.later {w w2 : World} (h : Most w) (hb : Below w.heap.size w w2) : Most w2 :=
  ⟨by rw [hb.cell (by exact h.lt)]; exact h.m0, by rw [hb.cell (by exact h.lt)]; exact h.m1, Nat.lt_of_lt_of_le h.lt hb.size⟩
theorem show_most_text : showN mostN = ⟨#[51, 52, 48, 50, 56, 50, 51, 54, 54, 57, 50, 48, 57, 51, 56, 52, 54, 51, 52, 54, 51, 51, 55, 52, 54, 48, 55, 52, 51, 49, 55, 54, 56, 50, 49, 49, 52, 53, 53]⟩ := by decide +kernel
theorem show_most (w : World) : Calls Tryd.prog 23 #[numV mostN] w fun e w' => e = .returned (.string ⟨#[51, 52, 48, 50, 56, 50, 51, 54, 54, 57, 50, 48, 57, 51, 56, 52, 54, 51, 52, 54, 51, 51, 55, 52, 54, 48, 55, 52, 51, 49, 55, 54, 56, 50, 49, 49, 52, 53, 53]⟩) ∧ Below w.heap.size w w' := by
  have := show_any mostN most_lt w
  rw [show_most_text] at this
  exact this
theorem of_one (w : World) : Calls Tryd.prog 26 #[.int .u64 1] w fun e w' => e = .returned (numV 1) ∧ Below w.heap.size w w' := of_any 1 w
theorem add_most (w : World) : Calls Tryd.prog 10 #[numV mostN, numV 1] w fun e w' => e = .returned (.tuple #[numV 0, .bool false]) ∧ Below w.heap.size w w' := by
  have := add_any mostN 1 most_lt (by rw [big_eq]; omega) w
  rw [sumN_no (by unfold mostN; rw [big_eq]; omega), sumOk_no (by unfold mostN; rw [big_eq]; omega)] at this
  exact this

theorem keep_call {w W wx : World} {A B : Prop} (h : A ∧ B ∧ Below w.heap.size w W) (hb : Below W.heap.size W wx) : Below w.heap.size w wx := h.2.2.trans (hb.mono h.2.2.size)
theorem keep_alloc {w W : World} {A B : Prop} (h : A ∧ B ∧ Below w.heap.size w W) (o : Obj) : Below w.heap.size w (W.alloc o) := h.2.2.alloc h.2.2.size o
theorem keep_put {w W : World} {A B : Prop} (h : A ∧ B ∧ Below w.heap.size w W) {c : Nat} (hc : w.heap.size ≤ c) (x y : Value) : Below w.heap.size w ((W.setCell ⟨c, 0, none⟩ x).setCell ⟨c, 1, none⟩ y) := bl_put h.2.2 hc
theorem keep_drew {w W : World} {A B : Prop} (h : A ∧ B ∧ Below w.heap.size w W) : Below w.heap.size w W.drew := h.2.2.drew
theorem keep_most {w W : World} (h : Most w) (hb : Below w.heap.size w W) : W.cell? ⟨0, 0, none⟩ = some (.int .u64 ((hiN mostN : Nat) : Int)) ∧ W.cell? ⟨0, 1, none⟩ = some (.int .u64 ((loN mostN : Nat) : Int)) ∧ Below w.heap.size w W :=
  ⟨(h.later hb).m0, (h.later hb).m1, hb⟩
set_option maxRecDepth 100000 in
set_option maxHeartbeats 1000000 in
theorem alive_any (w : World) (hM : Most w) :
    Calls Tryd.prog 9 #[] w fun e w' => e = .returned (.bool true) ∧ Below w.heap.size w w' := by
  go_enter Tryd.func9, Tryd.ntmps9
  go_wp2_with fail
  go_region_held3 (fun w' => w'.cell? ⟨0, 0, none⟩ = some (.int .u64 ((hiN mostN : Nat) : Int)) ∧ w'.cell? ⟨0, 1, none⟩ = some (.int .u64 ((loN mostN : Nat) : Int)) ∧ Below w.heap.size w w')
    (first | (refine keep_most hM ?_; first | exact Below.refl _ _ | exact (Below.refl _ _).drew | exact keep_call (by assumption) hbx | exact keep_alloc (by assumption) _ | exact keep_drew (by assumption) | exact Below.alloc hwx (Below.size hwx) _ | exact keep_put (by assumption) (by first | exact Nat.le_refl _ | exact Below.size (by assumption)) _ _))
    (first | (go_at_call 26; with_reducible refine (of_one _).mono ?_; rintro e wx ⟨rfl, hbx⟩; have hwx : Below w.heap.size w wx := keep_call (by assumption) hbx; obtain ⟨hcx, hfx, hzx⟩ := bcell hbx) | (go_at_call 10; with_reducible refine (add_most _).mono ?_; rintro e wx ⟨rfl, hbx⟩; have hwx : Below w.heap.size w wx := keep_call (by assumption) hbx; obtain ⟨hcx, hfx, hzx⟩ := bcell hbx))
  all_goals
    rename_i hH
    obtain ⟨n0, n1, hB⟩ := hH
    go_wp2_with (go_at_call 23; with_reducible refine (show_most _).mono ?_; rintro e wz ⟨rfl, hz⟩)
    go_ret
    exact ⟨rfl, hB.trans (hz.mono hB.size)⟩
end Go.Proofs.YtddjogbenfkcpaaDoor
