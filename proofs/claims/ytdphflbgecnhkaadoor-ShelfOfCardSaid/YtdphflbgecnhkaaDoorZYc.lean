/- Stage 26: the document's bytes of a place; the question that each law asks first. No condition but the landed package's. -/
import Derived.Test.YtdphflbgecnhkaaDoorZYb
import Derived.Test.YtdphflbgecnhkaaDoorZAb
import Derived.Laws.StructEq
import Derived.Deep.MidRow
namespace Go.Proofs.YtdphflbgecnhkaaDoor
open Go.RowKit Go.Sort Wm Cr

theorem Hx.range {Mo : World → Prop} {w W : World} {b : Nat} {M : List Value} {l : List (Nat × List Value)} (h : Hx Mo w W l) (hm : (b, M) ∈ l) : W.rangeAt b 0 M := (h.box (b, M) hm).range
theorem conv_tail (x : UInt8) (W : World) :
    (convert 40 9 (.slice (some ⟨W.heap.size, 0, none⟩) 2 2)).run Tryd.prog ((W.alloc (.cells #[.int .u8 ((x.toNat : Nat) : Int), .int .u8 1] 5)).drew) = .ok (.string ⟨#[x, 1]⟩) ((W.alloc (.cells #[.int .u8 ((x.toNat : Nat) : Int), .int .u8 1] 5)).drew) :=
  run_convert_bytes_back (P := Tryd.prog) _ 40 9 5 ⟨W.heap.size, 0, none⟩ 2 [x, 1] Tryd.underlying40 Tryd.underlying5 Tryd.underlying9 (fun j hj => by
    match j, hj with
    | 0, _ => simp [Addr.add, go_sem]
    | 1, _ => simp [Addr.add, go_sem])
set_option maxRecDepth 100000 in
set_option maxHeartbeats 4000000 in
theorem refplace_any (p : Place) (hp : p.Wf) (hg : goodPl p = true) (w : World) : Calls Tryd.prog 12 #[.string p.Good, .string p.Site, .int .i64 p.State] w fun e w' => e = .returned (.string (plcB p)) ∧ Below w.heap.size w w' := by
  obtain ⟨g1, g2, g3⟩ := (goodPl_iff p).1 hg
  have c1 := Lib.hid (fun W => reffill_any p.Good 10 10 rfl (by decide) hp.Good W)
  have c2 := Lib.hid (fun W => reffill_any p.Site 4 4 rfl (by decide) hp.Site W)
  have hx : ∃ x : UInt8, ((x.toNat : Nat) : Int) = p.State ∧ tailB p.State = ⟨#[x, 1]⟩ := ⟨UInt8.ofNat p.State.toNat, by rw [UInt8.toNat_ofNat_of_lt' (by show p.State.toNat < 256; omega)]; omega, rfl⟩
  obtain ⟨x, hx1, hx2⟩ := hx
  have hcv := fun W => conv_tail x W
  have hb := Lib.hid (show fillB p.Good 10 ++ fillB p.Site 4 ++ ⟨#[x, 1]⟩ = plcB p by rw [← hx2]; rfl)
  have hs1 : (fillB p.Good 10).size = 10 := fillB_size ((nameB_iff _ _).1 g1).1.2
  have hs2 : (fillB p.Site 4).size = 4 := fillB_size ((nameB_iff _ _).1 g2).1.2
  rw [← hx1]
  have hx3 : x.toNat < 256 := UInt8.toNat_lt x
  have hx4 : IntKind.u8.wrap ((x.toNat : Nat) : Int) = ((x.toNat : Nat) : Int) := by rw [IntKind.wrap_u8]; omega
  clear hx1 hx2 g1 g2 g3 hg
  generalize fillB p.Good 10 = b1 at *
  generalize fillB p.Site 4 = b2 at *
  go_enter Tryd.func12, Tryd.ntmps12
  go_wp2_with fail
  go_region_held3 (fun w' => Below w.heap.size w w')
    (first | exact (Below.refl _ _).drew | exact ((Below.refl _ _).alloc (Nat.le_refl _) _).drew | exact (Below.refl _ _).drew.alloc (Nat.le_refl _) _ | assumption)
    (first | (go_at_call 20; with_reducible refine (c1.out _).mono ?_; rintro e wx ⟨rfl, rfl⟩) | (go_at_call 20; with_reducible refine (c2.out _).mono ?_; rintro e wx ⟨rfl, rfl⟩))
  all_goals
    go_wp2
    go_ret
    exact ⟨by rw [hb.out]; rfl, (Below.refl _ _).drew.alloc (Nat.le_refl _) _⟩
open Classical in
set_option maxRecDepth 100000 in
theorem run_eql_place (p q : Place) (w : World) : (binOp .eql 23 (.agg p.cells.toArray) (.agg q.cells.toArray)).run Tryd.prog w = .ok (.bool (decide (p = q))) w := by
  have h : (Op.equalIn 10000 23 (.agg p.cells.toArray) (.agg q.cells.toArray)).run Tryd.prog w = .ok (decide (p = q)) w := by
    by_cases h : p = q
    · subst h
      rw [decide_eq_true rfl]
      unfold Place.cells
      simp [go_sem]
    · rw [decide_eq_false h]
      unfold Place.cells
      simp [go_sem]
      intro h1 h2 h3
      rw [ByteArray.toList_eq, ByteArray.toList_eq] at h1 h2
      exact h (Place.same (bytes_ext h1) (bytes_ext h2) h3)
  rw [run_eql_struct, h]; rfl
open Classical in
theorem run_eql_place_self (p : Place) (w : World) : (binOp .eql 23 (.agg p.cells.toArray) (.agg p.cells.toArray)).run Tryd.prog w = .ok (.bool true) w := by
  rw [run_eql_place]; simp
def boltP : Place := ⟨⟨#[66, 79, 76, 84]⟩, ⟨#[78, 89]⟩, 1⟩
theorem bolt_wf : boltP.Wf := ⟨by decide, by decide, by decide⟩
theorem bolt_good : goodPl boltP = true := by decide +kernel
theorem bolt_show : showPl boltP = ⟨#[66, 79, 76, 84, 64, 78, 89]⟩ := by decide +kernel
set_option maxRecDepth 100000 in
set_option maxHeartbeats 1000000 in
theorem shelfAlive_of {Mo : World → Prop} (L : LandedSh Mo) (w : World) (hM : Mo w) (P : Place) (hw : P.Wf) (hgd : goodPl P = true) (hs : showPl P = ⟨#[66, 79, 76, 84, 64, 78, 89]⟩) (hC : P.cells = [.string ⟨#[66, 79, 76, 84]⟩, .string ⟨#[78, 89]⟩, .int .i64 1]) :
    Calls Tryd.prog 6 #[] w fun e w' => e = .returned (.bool true) ∧ Below w.heap.size w w' := by
  have hm0 := (Hx.refl hM).new L.later P.cells 23
  have k1 := Lib.hid (fun W (h : Hx Mo w W [(w.heap.size, P.cells)]) => h.ask L.later (L.id P W hw h.mo))
  have k2 := Lib.hid (fun W (h : Hx Mo w W [(w.heap.size, P.cells)]) => h.ask L.later (L.shows P W hw h.mo))
  rw [hgd] at k1
  rw [hs] at k2
  have hal := Lib.hid (fun W (h : Hx Mo w W [(w.heap.size, P.cells)]) o => h.alloc L.later o)
  have hV : placeV P = .agg P.cells.toArray := rfl
  have hg := Lib.hid (fun W (h : Hx Mo w W [(w.heap.size, P.cells)]) => (show W.cell? ⟨w.heap.size, 0, none⟩ = some (.string ⟨#[66, 79, 76, 84]⟩) ∧ W.cell? ⟨w.heap.size, 1, none⟩ = some (.string ⟨#[78, 89]⟩) ∧ W.cell? ⟨w.heap.size, 2, none⟩ = some (.int .i64 1) ∧ w.heap.size < W.heap.size from
    ⟨(h.box _ (List.mem_cons_self ..)).spot 0 _ (by rw [hC]; rfl), (h.box _ (List.mem_cons_self ..)).spot 1 _ (by rw [hC]; rfl), (h.box _ (List.mem_cons_self ..)).spot 2 _ (by rw [hC]; rfl), (h.box _ (List.mem_cons_self ..)).lt⟩))
  have hC2 : P.cells.toArray = #[.string ⟨#[66, 79, 76, 84]⟩, .string ⟨#[78, 89]⟩, .int .i64 1] := by rw [hC]
  generalize idPl P = n at *
  rw [hV] at k1 k2
  unfold numV at k1
  rw [hC2] at hm0 k1 k2
  clear hV hM L hC hC2 hgd hs
  generalize P.cells = M at *
  go_enter Tryd.func6, Tryd.ntmps6
  go_wp2_with fail
  refine (k1.out _ hm0).mono ?_
  rintro e w1 ⟨rfl, hm1⟩
  have hm2 := hal.out _ hm1 (.cells #[.int .u64 ((hiN n : Nat) : Int), .int .u64 ((loN n : Nat) : Int)] 27)
  obtain ⟨z0, z1, z2, zl⟩ := hg.out _ hm1
  go_wp2_with fail
  refine (k2.out _ hm2).mono ?_
  rintro e w2 ⟨rfl, hm3⟩
  go_wp2
  go_ret
  exact ⟨rfl, hm3.bel⟩
theorem shelfAlive_any {Mo : World → Prop} (L : LandedSh Mo) (w : World) (hM : Mo w) : Calls Tryd.prog 6 #[] w fun e w' => e = .returned (.bool true) ∧ Below w.heap.size w w' :=
  shelfAlive_of L w hM boltP bolt_wf bolt_good bolt_show rfl
end Go.Proofs.YtdphflbgecnhkaaDoor
