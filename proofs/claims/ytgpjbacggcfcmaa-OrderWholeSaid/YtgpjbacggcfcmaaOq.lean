/- Stage 12: the law's same, of pairs and numbers that are. No condition. -/
import Derived.Test.YtgpjbacggcfcmaaOf
import Derived.Test.YtgpjbacggcfcmaaOl
import Derived.BigQuiet
namespace Go.Proofs.Ytgpjbacggcfcmaa
open Go.RowKit Wm

set_option maxRecDepth 100000 in
set_option maxHeartbeats 4000000 in
theorem osame_any {W : World} {T : Zbl} {ao bo eo : Option Addr} {c d f : Nat} (hl : T.length ≤ 1000) (h1 : PrsAt W ao T) (h2 : IntsAt W bo (T.map Prod.fst)) (h3 : IntsAt W eo (T.map Prod.snd)) :
    Calls Try.prog 11 #[.slice ao T.length c, .slice bo T.length d, .slice eo T.length f] W fun e W' => e = .returned (.bool true) ∧ Below W.heap.size W W' := by
  go_enter Try.func11, Try.ntmps11
  go_wp2_with fail
  go_loopw [16] (fun iv wr => ∃ k : Nat, k ≤ T.length ∧ iv = .int .i64 k ∧ Below W.heap.size W wr) (fun iv _ => (T.length - RowKit.intOf iv).toNat)
  case atStart => exact ⟨0, by omega, rfl, Below.refl _ _⟩
  case round =>
    obtain ⟨k, hk, rfl, hb⟩ := hrel
    by_cases hlt : k < T.length
    · obtain ⟨g1, o1, rfl, hg1, x0, x1⟩ := (h1.later hb).spot k hlt
      obtain ⟨g2, rfl, hg2, y0⟩ := (h2.later hb).spot k (by rw [List.length_map]; exact hlt)
      obtain ⟨g3, rfl, hg3, z0⟩ := (h3.later hb).spot k (by rw [List.length_map]; exact hlt)
      rw [List.getElem_map] at y0 z0
      generalize T[k] = x at *
      obtain ⟨xs, xa⟩ := x
      dsimp only at x0 x1 y0 z0
      have hbq : Below wr.heap.size wr (wr.alloc (.cells #[.int .i64 xs, .int .i64 xa] 44)) := (Below.refl wr.heap.size wr).alloc (Nat.le_refl _) _
      have hbx := BoxAt.new wr [.int .i64 xs, .int .i64 xa] 44
      have y0' := (hbq.cell (p := ⟨g2, k, none⟩) hg2).trans y0
      have z0' := (hbq.cell (p := ⟨g3, k, none⟩) hg3).trans z0
      have hb2 := hb.trans (hbq.mono hb.size)
      go_wp2_with fail
      generalize hwq : wr.alloc (.cells #[.int .i64 xs, .int .i64 xa] 44) = wq at *
      have q0 := hbx.spot 0 _ rfl
      have q1 := hbx.spot 1 _ rfl
      clear hwq hbx
      go_quiet (fail)
      have hb3 : Below W.heap.size W (wq.drewN nq) := hb2.trans ⟨rfl, rfl, rfl, Nat.le_refl _, fun _ _ => rfl⟩
      generalize wq.drewN nq = wz at *
      go_wp2
      go_roundw
      case measure => simp [RowKit.intOf]; omega
      case rel => exact ⟨k + 1, by omega, rfl, hb3⟩
    · go_wp2_with fail
      go_ret
      exact ⟨rfl, hb⟩
end Go.Proofs.Ytgpjbacggcfcmaa
