/- Stage 26: the landed shelf's Id. No condition but sizes. -/
import Derived.Test.YtdphflbgecnhkaaDoorZYt
import Derived.BigRegion
namespace Go.Proofs.YtdphflbgecnhkaaDoor
open Go.RowKit Go.Sort Wm

theorem run_cut10 (s : Nat) (W : World) :
    (Instr.sliceAt 39 (.pointer (some ⟨s, 0, none⟩)) none (some (.int .i64 10)) (some (.int .i64 10))).run Tryd.prog W = .ok (.slice (some ⟨s, 0, none⟩) 10 10) W := by
  have h16 : Tryd.prog.arrayLen 39 = 16 := by kernel_rfl
  rw [run_sliceAt_array_hm (P := Tryd.prog) W 39 ⟨s, 0, none⟩ (by kernel_rfl) .i64 .i64 10 10 (by decide) (by decide) (by rw [h16]; decide)]
  have hs : ∀ W, (sizeOf (Tryd.prog.elem 39)).run Tryd.prog W = .ok 1 W := fun W => by kernel_rfl
  rw [hs]
  simp [Result.andThen, slicedAt, Addr.add]
theorem run_cut14 (s : Nat) (W : World) :
    (Instr.sliceAt 39 (.pointer (some ⟨s, 0, none⟩)) (some (.int .i64 10)) (some (.int .i64 14)) (some (.int .i64 14))).run Tryd.prog W = .ok (.slice (some ⟨s, 10, none⟩) 4 4) W := by
  have h16 : Tryd.prog.arrayLen 39 = 16 := by kernel_rfl
  rw [run_sliceAt_array_lhm (P := Tryd.prog) W 39 ⟨s, 0, none⟩ (by kernel_rfl) .i64 .i64 .i64 10 14 14 (by decide) (by decide) (by decide) (by rw [h16]; decide)]
  have hs : ∀ W, (sizeOf (Tryd.prog.elem 39)).run Tryd.prog W = .ok 1 W := fun W => by kernel_rfl
  rw [hs]
  simp [Result.andThen, slicedAt, Addr.add]
theorem idW_start {w W1 : World} (cs : List Value) (h0 : BoxAt W1 w.heap.size cs) (r0 : W1.cell? ⟨w.heap.size + 1, 0, none⟩ = some (.int .u64 0)) (r1 : W1.cell? ⟨w.heap.size + 1, 1, none⟩ = some (.int .u64 0)) (g : ∀ j, W1.frozen? ⟨w.heap.size + 1, j, none⟩ = false) (hl : w.heap.size + 1 < W1.heap.size) (hb : Below w.heap.size w W1) :
    IdW w (W1.alloc (.cells #[.int .u8 0, .int .u8 0, .int .u8 0, .int .u8 0, .int .u8 0, .int .u8 0, .int .u8 0, .int .u8 0, .int .u8 0, .int .u8 0, .int .u8 0, .int .u8 0, .int .u8 0, .int .u8 0, .int .u8 0, .int .u8 0] 39)) W1.heap.size cs (fun _ => 0) := by
  have ha : ∀ o, Below W1.heap.size W1 (W1.alloc o) := fun o => (Below.refl _ _).alloc (Nat.le_refl _) o
  refine ⟨⟨fun j hj => ?_, fun j _ => by simp [go_sem], hb.alloc (by omega) _, by omega, by simp⟩, h0.later (ha _), ?_, ?_, fun j => ?_, hl⟩
  · simp only [go_sem]
    exact rep16 _ j hj
  · rw [(ha _).cell (p := ⟨w.heap.size + 1, 0, none⟩) hl]; exact r0
  · rw [(ha _).cell (p := ⟨w.heap.size + 1, 1, none⟩) hl]; exact r1
  · rw [(ha _).frozen (p := ⟨w.heap.size + 1, j, none⟩) hl]; exact g j
theorem idF_lt (p : Place) (x : Nat) (hx : x < 256) (j : Nat) : idF p x j < 256 := by
  unfold idF setF copyF
  split
  · decide
  · split
    · exact hx
    · split
      · exact byteOf_lt _ _
      · split
        · exact byteOf_lt _ _
        · show (0 : Nat) < 256; decide
set_option maxRecDepth 100000 in
set_option maxHeartbeats 1000000 in
theorem shId_yes (p : Place) (hp : p.Wf) (hg : goodPl p = true) (w : World) : Calls Tryd.prog 7 #[placeV p] w fun e w' => e = .returned (.tuple #[numV (idPl p), .int .i64 0]) ∧ Below w.heap.size w w' := by
  have cG := Lib.hid (fun W => shGood_any p hp W)
  rw [hg] at cG
  obtain ⟨g1, g2, g3⟩ := (goodPl_iff p).1 hg
  have s1 := ((nameB_iff _ _).1 g1).1.2
  have s2 := ((nameB_iff _ _).1 g2).1.2
  have hT := idF_text hg
  have hB := idPl_bytes hg
  have cF : Hid (∀ W, Calls Tryd.prog 14 #[.string ((⟨(bytesL (idPl p)).toArray⟩ : ByteArray) ++ ByteArray.empty)] W fun e W' => e = .returned (.tuple #[.agg #[.int .u64 ((hiN (idPl p) : Nat) : Int), .int .u64 ((loN (idPl p) : Nat) : Int)], .bool true]) ∧ Below W.heap.size W W') := Lib.hid (fun W => frombytes_again (idPl p) (idPl_lt p) ByteArray.empty W)
  have hbt : (⟨(bytesL (idPl p)).toArray⟩ : ByteArray) ++ ByteArray.empty = textOf 16 (idF p p.State.toNat) := by
    rw [ByteArray.append_empty, hT, ← hB]; rfl
  rw [hbt] at cF
  have hx4 : IntKind.u8.wrap p.State = ((p.State.toNat : Nat) : Int) := by rw [IntKind.wrap_u8]; omega
  have h10 := run_cut10
  have h14 := run_cut14
  have h16 := run_slice16
  have hst : p.State.toNat < 256 := by omega
  generalize p.State.toNat = st at *
  rw [placeV_eq] at *
  have hV : numV (idPl p) = .agg #[.int .u64 ((hiN (idPl p) : Nat) : Int), .int .u64 ((loN (idPl p) : Nat) : Int)] := rfl
  rw [hV] at *
  clear hV
  generalize ((hiN (idPl p) : Nat) : Int) = y0 at *
  generalize ((loN (idPl p) : Nat) : Int) = y1 at *
  go_enter Tryd.func7, Tryd.ntmps7
  go_wp2_with (go_at_call 8; with_reducible refine (cG.out _).mono ?_; rintro e W1 ⟨rfl, hb1⟩)
  have hI := idW_start (w := w) (W1 := W1) [.string p.Good, .string p.Site, .int .i64 p.State] (((BoxAt.new w [.string p.Good, .string p.Site, .int .i64 p.State] 23).later ((Below.refl _ _).alloc (Nat.le_refl _) _)).later hb1)
    (by rw [hb1.cell (p := ⟨w.heap.size + 1, 0, none⟩) (by simp)]; simp [go_sem]) (by rw [hb1.cell (p := ⟨w.heap.size + 1, 1, none⟩) (by simp)]; simp [go_sem]) (fun j => by rw [hb1.frozen (p := ⟨w.heap.size + 1, j, none⟩) (by simp)]; simp [go_sem])
    (Nat.lt_of_lt_of_le (by simp) hb1.size) (((Below.refl _ _).alloc (Nat.le_refl _) _).alloc (by simp) _ |>.trans (hb1.mono (by simp; omega)))
  generalize W1.heap.size = B at hI ⊢
  generalize W1.alloc _ = W2 at hI ⊢
  clear hb1 cG
  have hd := hI.drew
  have k0 : W2.cell? ⟨w.heap.size, 0, none⟩ = some (.string p.Good) := hI.box.spot 0 _ rfl
  have hc := fun ty => hd.row.copyRun p.Good 0 10 10 (by decide) s1 ty
  go_region
  have hI2 := hd.copied p.Good 0 (by omega)
  generalize W2.drew.setCells B 0 (cellsS p.Good) = W3 at hI2 ⊢
  clear hd k0 hc hI
  go_wp2
  have hd := hI2.drew
  have k0 : W3.cell? ⟨w.heap.size, 1, none⟩ = some (.string p.Site) := hI2.box.spot 1 _ rfl
  have hc := fun ty => hd.row.copyRun p.Site 10 4 4 (by decide) s2 ty
  go_region
  have hI3 := hd.copied p.Site 10 (by omega)
  generalize W3.drew.setCells B 10 (cellsS p.Site) = W4 at hI3 ⊢
  clear hd k0 hc hI2
  have k0 : W4.cell? ⟨w.heap.size, 2, none⟩ = some (.int .i64 p.State) := hI3.box.spot 2 _ rfl
  have k14 := hI3.row.cell 14 (by decide)
  have k15 := hI3.row.cell 15 (by decide)
  have f14 := hI3.row.fz 14 (by decide)
  have f15 := hI3.row.fz 15 (by decide)
  have hI4 : IdW w ((W4.setCell ⟨B, 14, none⟩ (.int .u8 ((st : Nat) : Int))).setCell ⟨B, 15, none⟩ (.int .u8 1)) B [.string p.Good, .string p.Site, .int .i64 p.State] (idF p st) := (hI3.put (k := 14) (x := st) (by decide)).put (k := 15) (x := 1) (by decide)
  have hback := hI4.row.back (idF_lt p _ hst) 16
  clear hI3
  generalize textOf 16 (idF p st) = tx at *
  clear hT hbt hB g1 g2 g3 hg h10 h14
  go_wp2_with (go_at_call 14; with_reducible refine (cF.out _).mono ?_; rintro e W5 ⟨rfl, hb5⟩; replace hI4 := hI4.later hb5; clear hb5; have r0 := hI4.r0; have r1 := hI4.r1; have q0 := hI4.g 0; have q1 := hI4.g 1; have hlt := Nat.lt_trans hI4.far hI4.row.near)
  refine bodyPost_ret (v := .tuple #[.agg #[.int .u64 y0, .int .u64 y1], .int .i64 0]) ?_ rfl ?_
  · simp [results, Tryd.results7, go_sem, cell_put0 r0 r1, cell_put1 r0 r1, hlt]
  · exact ⟨rfl, ((hI4.row.below.setCell (by simp) _).setCell (by simp) _).alloc (by simpa using hI4.row.below.size) _⟩
set_option maxRecDepth 100000 in
set_option maxHeartbeats 1000000 in
theorem shId_no (p : Place) (hp : p.Wf) (hg : goodPl p = false) (w : World) : Calls Tryd.prog 7 #[placeV p] w fun e w' => e = .returned (.tuple #[.agg #[.int .u64 0, .int .u64 0], .int .i64 1]) ∧ Below w.heap.size w w' := by
  have cG := Lib.hid (fun W => shGood_any p hp W)
  rw [hg] at cG
  rw [placeV_eq] at *
  go_enter Tryd.func7, Tryd.ntmps7
  go_wp2_with fail
  refine (cG.out _).mono ?_
  rintro e W1 ⟨rfl, hb1⟩
  have r0 : W1.cell? ⟨w.heap.size + 1, 0, none⟩ = some (.int .u64 0) := by rw [hb1.cell (p := ⟨w.heap.size + 1, 0, none⟩) (by simp)]; simp [go_sem]
  have r1 : W1.cell? ⟨w.heap.size + 1, 1, none⟩ = some (.int .u64 0) := by rw [hb1.cell (p := ⟨w.heap.size + 1, 1, none⟩) (by simp)]; simp [go_sem]
  have q0 : W1.frozen? ⟨w.heap.size + 1, 0, none⟩ = false := by rw [hb1.frozen (p := ⟨w.heap.size + 1, 0, none⟩) (by simp)]; simp [go_sem]
  have q1 : W1.frozen? ⟨w.heap.size + 1, 1, none⟩ = false := by rw [hb1.frozen (p := ⟨w.heap.size + 1, 1, none⟩) (by simp)]; simp [go_sem]
  have hbl := Lib.hid (show Below w.heap.size w W1 from ((Below.refl _ _).alloc (Nat.le_refl _) _).alloc (by simp) _ |>.trans (hb1.mono (by simp; omega)))
  clear hb1 cG
  go_wp2
  refine bodyPost_ret (v := .tuple #[.agg #[.int .u64 0, .int .u64 0], .int .i64 1]) ?_ rfl ?_
  · simp [results, Tryd.results7, go_sem, cell_put0 r0 r1, cell_put1 r0 r1]
  · exact ⟨rfl, (hbl.out.setCell (by simp) _).setCell (by simp) _⟩
theorem shId_any (p : Place) (hp : p.Wf) (w : World) : Calls Tryd.prog 7 #[placeV p] w fun e w' => e = .returned (.tuple #[numV (idPl p), .int .i64 (if goodPl p = true then 0 else 1)]) ∧ Below w.heap.size w w' := by
  cases hg : goodPl p
  · have e : numV (idPl p) = .agg #[.int .u64 0, .int .u64 0] := by
      unfold idPl
      rw [hg, if_neg (by decide)]
      kernel_rfl
    rw [e]
    exact shId_no p hp hg w
  · exact shId_yes p hp hg w
end Go.Proofs.YtdphflbgecnhkaaDoor
