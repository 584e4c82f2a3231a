/- Stage 26: the document's bytes of a place; the question that each law asks first. No condition but the landed package's. -/
import Derived.Test.YtdphflbgecnhkaaDoorVYb
import Derived.Test.YtdphflbgecnhkaaDoorVAb
import Derived.Laws.StructEq
import Derived.Deep.MidRow
namespace Go.Proofs.YtdphflbgecnhkaaDoor
open Go.RowKit Go.Sort Wm Cr

theorem Hx.range {Mo : World → Prop} {w W : World} {b : Nat} {M : List Value} {l : List (Nat × List Value)} (h : Hx Mo w W l) (hm : (b, M) ∈ l) : W.rangeAt b 0 M := (h.box (b, M) hm).range
open Classical in
set_option maxRecDepth 100000 in
theorem run_eql_place (p q : Place) (w : World) : (binOp .eql 23 (.agg p.cells.toArray) (.agg q.cells.toArray)).run Tryd.prog w = .ok (.bool (decide (p = q))) w := by
  have h : (Op.equalIn 10000 23 (.agg p.cells.toArray) (.agg q.cells.toArray)).run Tryd.prog w = .ok (decide (p = q)) w := by
    by_cases h : p = q
    · subst h
      rw [decide_eq_true rfl]
      unfold Place.cells
      simp [go_sem]
    · rw [decide_eq_false h]
      unfold Place.cells
      simp [go_sem]
      intro h1 h2 h3
      rw [ByteArray.toList_eq, ByteArray.toList_eq] at h1 h2
      exact h (Place.same (bytes_ext h1) (bytes_ext h2) h3)
  rw [run_eql_struct, h]; rfl
def boltP : Place := ⟨⟨#[66, 79, 76, 84]⟩, ⟨#[78, 89]⟩, 1⟩
theorem bolt_wf : boltP.Wf := ⟨by decide, by decide, by decide⟩
theorem bolt_good : goodPl boltP = true := by decide +kernel
theorem bolt_show : showPl boltP = ⟨#[66, 79, 76, 84, 64, 78, 89]⟩ := by decide +kernel
set_option maxRecDepth 100000 in
set_option maxHeartbeats 1000000 in
theorem shelfAlive_of {Mo : World → Prop} (L : LandedSh Mo) (w : World) (hM : Mo w) (P : Place) (hw : P.Wf) (hgd : goodPl P = true) (hs : showPl P = ⟨#[66, 79, 76, 84, 64, 78, 89]⟩) (hC : P.cells = [.string ⟨#[66, 79, 76, 84]⟩, .string ⟨#[78, 89]⟩, .int .i64 1]) :
    Calls Tryd.prog 6 #[] w fun e w' => e = .returned (.bool true) ∧ Below w.heap.size w w' := by
  have hm0 := (Hx.refl hM).new L.later P.cells 23
  have k1 := Lib.hid (fun W (h : Hx Mo w W [(w.heap.size, P.cells)]) => h.ask L.later (L.id P W hw h.mo))
  have k2 := Lib.hid (fun W (h : Hx Mo w W [(w.heap.size, P.cells)]) => h.ask L.later (L.shows P W hw h.mo))
  rw [hgd] at k1
  rw [hs] at k2
  have hal := Lib.hid (fun W (h : Hx Mo w W [(w.heap.size, P.cells)]) o => h.alloc L.later o)
  have hV : placeV P = .agg P.cells.toArray := rfl
  have hg := Lib.hid (fun W (h : Hx Mo w W [(w.heap.size, P.cells)]) => (show W.cell? ⟨w.heap.size, 0, none⟩ = some (.string ⟨#[66, 79, 76, 84]⟩) ∧ W.cell? ⟨w.heap.size, 1, none⟩ = some (.string ⟨#[78, 89]⟩) ∧ W.cell? ⟨w.heap.size, 2, none⟩ = some (.int .i64 1) ∧ w.heap.size < W.heap.size from
    ⟨(h.box _ (List.mem_cons_self ..)).spot 0 _ (by rw [hC]; rfl), (h.box _ (List.mem_cons_self ..)).spot 1 _ (by rw [hC]; rfl), (h.box _ (List.mem_cons_self ..)).spot 2 _ (by rw [hC]; rfl), (h.box _ (List.mem_cons_self ..)).lt⟩))
  have hC2 : P.cells.toArray = #[.string ⟨#[66, 79, 76, 84]⟩, .string ⟨#[78, 89]⟩, .int .i64 1] := by rw [hC]
  generalize idPl P = n at *
  rw [hV] at k1 k2
  unfold numV at k1
  rw [hC2] at hm0 k1 k2
  clear hV hM L hC hC2 hgd hs
  generalize P.cells = M at *
  go_enter Tryd.func6, Tryd.ntmps6
  go_wp2_with fail
  refine (k1.out _ hm0).mono ?_
  rintro e w1 ⟨rfl, hm1⟩
  have hm2 := hal.out _ hm1 (.cells #[.int .u64 ((hiN n : Nat) : Int), .int .u64 ((loN n : Nat) : Int)] 27)
  obtain ⟨z0, z1, z2, zl⟩ := hg.out _ hm1
  go_wp2_with fail
  refine (k2.out _ hm2).mono ?_
  rintro e w2 ⟨rfl, hm3⟩
  go_wp2
  go_ret
  exact ⟨rfl, hm3.bel⟩
theorem shelfAlive_any {Mo : World → Prop} (L : LandedSh Mo) (w : World) (hM : Mo w) : Calls Tryd.prog 6 #[] w fun e w' => e = .returned (.bool true) ∧ Below w.heap.size w w' :=
  shelfAlive_of L w hM boltP bolt_wf bolt_good bolt_show rfl
end Go.Proofs.YtdphflbgecnhkaaDoor
