/- Stage 26: the landed shelf's Show. No condition but sizes. -/
import Derived.Test.YtdphflbgecnhkaaDoorZYs
namespace Go.Proofs.YtdphflbgecnhkaaDoor
open Go.RowKit Go.Sort Wm

set_option maxRecDepth 100000 in
set_option maxHeartbeats 1000000 in
theorem shShow_any (p : Place) (hp : p.Wf) (w : World) : Calls Tryd.prog 13 #[placeV p] w fun e w' => e = .returned (.string (showPl p)) ∧ Below w.heap.size w w' := by
  have cG := Lib.hid (fun W => shGood_any p hp W)
  have hv := Lib.hid (show showPl p = if goodPl p = true then p.Good ++ ⟨#[64]⟩ ++ p.Site else ByteArray.empty from rfl)
  rw [hv.out]
  clear hv
  rw [placeV_eq] at *
  cases hg : goodPl p
  · rw [hg] at cG
    go_enter Tryd.func13, Tryd.ntmps13
    go_wp2_with fail
    refine (cG.out _).mono ?_
    rintro e W1 ⟨rfl, hb1⟩
    have hbl := Lib.hid (show Below w.heap.size w W1 from ((Below.refl _ _).alloc (Nat.le_refl _) _).trans (hb1.mono (by simp)))
    clear hb1 cG
    go_wp2
    go_ret
    exact ⟨rfl, hbl.out⟩
  · rw [hg] at cG
    have n1 : ¬ 9223372036854775807 < p.Good.size + 1 := by have := hp.Good; omega
    have n2 : ¬ 9223372036854775807 < p.Good.size + 1 + p.Site.size := by have := hp.Good; have := hp.Site; omega
    go_enter Tryd.func13, Tryd.ntmps13
    go_wp2_with fail
    refine (cG.out _).mono ?_
    rintro e W1 ⟨rfl, hb1⟩
    have hbx := (BoxAt.new w [.string p.Good, .string p.Site, .int .i64 p.State] 23).later hb1
    have k0 : W1.cell? ⟨w.heap.size, 0, none⟩ = some (.string p.Good) := hbx.spot 0 _ rfl
    have k1 : W1.cell? ⟨w.heap.size, 1, none⟩ = some (.string p.Site) := hbx.spot 1 _ rfl
    have hbl := Lib.hid (show Below w.heap.size w W1 from ((Below.refl _ _).alloc (Nat.le_refl _) _).trans (hb1.mono (by simp)))
    clear hb1 cG
    go_wp2
    go_ret
    exact ⟨rfl, hbl.out⟩
end Go.Proofs.YtdphflbgecnhkaaDoor
