/- Stage 13, landed: those of a nil queue. No condition. -/
import Derived.Test.YtgdlcfkgdaaooaaPqn
namespace Go.Proofs.Ytgdlcfkgdaaooaa
open Go.RowKit Wm

section
set_option maxRecDepth 100000 in
theorem quNFirst (W : World) : Calls Try.prog 14 #[.pointer none] W fun e W' => e = .returned (popV none) ∧ Below W.heap.size W W' := by
  have hl : ∀ W0, Calls Try.prog 15 #[.pointer none] W0 fun e W' => e = .returned (.int .i64 0) ∧ W0 = W' := fun W0 => by
    go_enter Try.func15, Try.ntmps15
    go_wp2
    go_ret
    exact ⟨rfl, rfl⟩
  obtain ⟨W0, hW0⟩ : ∃ W0, W0 = W.alloc (.cells zeroQ.cells.toArray 34) := ⟨_, rfl⟩
  have hb0 : Below W.heap.size W W0 := by rw [hW0]; exact (Below.refl _ _).alloc (Nat.le_refl _) _
  have hlen := Lib.hid (hl W0)
  have hbx : BoxAt W0 W.heap.size zeroQ.cells := by rw [hW0]; exact BoxAt.new W zeroQ.cells _
  have hres := Lib.hid (run_loadVar_mid (P := Try.prog) W0 W.heap.size 0 34 zeroQ.cells _ hbx.range Try.underlying34 rfl (by kernel_rfl))
  have hW0' := Lib.hid (hW0.trans (zeroQ_alloc W))
  have hone := Lib.hid (all_oneCell_toArray (qitK.one zeroQ))
  have hi := Lib.hid (show (Try.prog.info? 34).map (·.size) = some zeroQ.cells.toArray.size by kernel_rfl)
  clear hW0 hl hbx
  go_enter Try.func14, Try.ntmps14
  go_upto_region 1 with (fail)
  rw [← hW0'.out]
  go_wp2_with fail
  refine hlen.out.mono ?_
  rintro e w2 ⟨rfl, rfl⟩
  go_wp2_with (refine wpList_store_new rfl 34 (.tmp 2) (.tmp 7) rfl W _ zeroQ.cells.toArray hW0'.out rfl rfl hi.out rfl hone.out ?_; rw [zeroQ_alloc, ← hW0'.out])
  exact bodyPost_ret (results_cell_tmp Try.results14 rfl rfl hres.out) rfl ⟨rfl, hb0⟩
set_option maxRecDepth 100000 in
set_option maxHeartbeats 1000000 in
theorem quNPop (now : Int) (W : World) : Calls Try.prog 12 #[.pointer none, .int .i64 now] W fun e W' => e = .returned (popV none) ∧ Below W.heap.size W W' := by
  obtain ⟨W0, hW0⟩ : ∃ W0, W0 = W.alloc (.cells zeroQ.cells.toArray 34) := ⟨_, rfl⟩
  have hb0 : Below W.heap.size W W0 := by rw [hW0]; exact (Below.refl _ _).alloc (Nat.le_refl _) _
  have lB : W.heap.size < W0.heap.size := by rw [hW0]; simp
  have th0 : W0.there W.heap.size 0 4 := by rw [hW0]; exact there_new W zeroQ.cells _
  have hfi := Lib.hid (quNFirst W0)
  have hW0' := Lib.hid (hW0.trans (zeroQ_alloc W))
  clear hW0
  have hone0 := Lib.hid (all_oneCell_toArray (qitK.one zeroQ))
  have hi0 := Lib.hid (show (Try.prog.info? 34).map (·.size) = some zeroQ.cells.toArray.size by kernel_rfl)
  go_enter Try.func12, Try.ntmps12
  go_upto_region 1 with (fail)
  rw [← hW0'.out]
  go_wp2_with fail
  refine hfi.out.mono ?_
  rintro e w1 ⟨rfl, hb1⟩
  obtain ⟨W2, hW2⟩ : ∃ W2, W2 = w1.alloc (.cells zeroQ.cells.toArray 34) := ⟨_, rfl⟩
  have hb2 : Below w1.heap.size w1 W2 := by rw [hW2]; exact (Below.refl _ _).alloc (Nat.le_refl _) _
  have hb12 := hb1.trans (hb2.mono hb1.size)
  have th2 := Lib.hid (show W2.there W.heap.size 0 zeroQ.cells.toArray.size from there_later th0 hb12 lB)
  have hO3 : Only (fun _ => False) W (W2.setCells W.heap.size 0 zeroQ.cells) := only_setCells W.heap.size (fun e => absurd e (Nat.lt_irrefl _)) _ _ (Only.of_below (hb0.trans (hb12.mono hb0.size)))
  have hfin := Lib.hid (hO3.to_below (Nat.le_refl _) (fun _ e => e.elim))
  have hres := Lib.hid (run_loadVar_mid (P := Try.prog) _ W.heap.size 0 34 zeroQ.cells _ (World.rangeAt_setCells_same W2 _ _ _ th2.out) Try.underlying34 rfl (by kernel_rfl))
  replace hW2 := Lib.hid hW2
  clear hb1 hb2 hb12 hfi th0 hb0 lB hO3
  unfold popV itemV at *
  dsimp only [Option.getD_none, Option.isSome_none]
  go_wp2_with (first
    | (refine wpList_store_new rfl 34 (.tmp 6) (.tmp 11) rfl w1 _ zeroQ.cells.toArray rfl rfl rfl hi0.out rfl hone0.out ?_; rw [← hW2.out])
    | (refine wpList_store_mid rfl 34 (.tmp 4) (.tmp 21) rfl W.heap.size 0 zeroQ.cells.toArray rfl rfl th2.out hi0.out hone0.out ?_))
  exact bodyPost_ret (results_cell_tmp Try.results12 rfl rfl hres.out) rfl ⟨rfl, hfin.out⟩
set_option maxRecDepth 100000 in
theorem landedQuNil : LandedQuNil where
  put := fun x W => by
    unfold itemV
    go_enter Try.func9, Try.ntmps9
    generalize x.cells = X
    go_wp2
    refine bodyPost_ret (results_none rfl _ _ _) rfl ?_
    exact ⟨rfl, (Below.refl _ _).alloc (Nat.le_refl _) _⟩
  drop := fun s W => by
    go_enter Try.func10, Try.ntmps10
    go_wp2
    go_ret
    exact ⟨rfl, (Below.refl _ _).alloc (Nat.le_refl _) _⟩
  pop := quNPop
  len := fun W => by
    go_enter Try.func15, Try.ntmps15
    go_wp2
    go_ret
    exact ⟨rfl, Below.refl _ _⟩
  first := quNFirst
end
end Go.Proofs.Ytgdlcfkgdaaooaa
