/- Stage 14, landed: a log's small calls: Mark, Keep, Clear, cutLast; what takes a change back is called, behind a door that catches. No condition but sizes. -/
import Derived.Test.YtkahohgbcnchiaaUnc
import Derived.Defers
import Derived.Recover
import Derived.Lib.AppendZeros
import Derived.OwnWalk
namespace Go.Proofs.Ytkahohgbcnchiaa
open Go.RowKit

abbrev LogV := SlV Bk.cells 1 1 []
abbrev LogO : Kind (List Bk) := SlO Bk.cells 1 1 []
abbrev PostL := PostS Bk.cells 1 1 []
theorem infoF : InfoK Try.prog 1 1 8 := InfoK.mk' (by kernel_rfl)
section
variable {W W' : World} {p : Nat} {v : Value} {s : List Bk}
theorem LogV.cell (h : LogV W p v s) : W.cell? ⟨p, 0, none⟩ = some v := h.c0
theorem LogV.fz (h : LogV W p v s) : W.frozen? ⟨p, 0, none⟩ = false := h.fp
set_option maxRecDepth 100000 in
theorem uMark_any (h : LogV W p v s) : Calls Try.prog 11 #[.pointer (some ⟨p, 0, none⟩)] W fun e W' => e = .returned (.int .i64 ((s.length : Nat) : Int)) ∧ W = W' := by
  have c0 := h.cell
  have lp := h.lp
  rcases h.slice with ⟨rfl, rfl⟩ | ⟨g, c, rfl, -, -, -⟩
  · clear h
    go_enter Try.func11, Try.ntmps11
    go_wp2
    go_ret
    exact ⟨rfl, rfl⟩
  · clear h
    go_enter Try.func11, Try.ntmps11
    go_wp2
    go_ret
    exact ⟨rfl, rfl⟩
theorem uMark_nil (W : World) : Calls Try.prog 11 #[.pointer none] W fun e W' => e = .returned (.int .i64 0) ∧ W = W' := by
  go_enter Try.func11, Try.ntmps11
  go_wp2
  go_ret
  exact ⟨rfl, rfl⟩
theorem uKeep_nil (b : Value) (W : World) : Calls Try.prog 31 #[.pointer none, b] W fun e W' => e = .returned (.tuple #[]) ∧ W = W' := by
  go_enter Try.func31, Try.ntmps31
  go_wp2
  refine bodyPost_ret (results_none rfl _ _ _) rfl ?_
  exact ⟨rfl, rfl⟩
theorem uClear_nil (W : World) : Calls Try.prog 18 #[.pointer none] W fun e W' => e = .returned (.tuple #[]) ∧ W = W' := by
  go_enter Try.func18, Try.ntmps18
  go_wp2
  refine bodyPost_ret (results_none rfl _ _ _) rfl ?_
  exact ⟨rfl, rfl⟩
set_option maxRecDepth 100000 in
set_option maxHeartbeats 1000000 in
theorem uKeep_any (h : LogV W p v s) (hs : s.length ≤ 100000) (b : Bk) :
    Calls Try.prog 31 #[.pointer (some ⟨p, 0, none⟩), b.val] W fun e W' => e = .returned (.tuple #[]) ∧ PostL W p v (s ++ [b]) W' := by
  have hu : Try.prog.underlying 25 = some (.slice 1) := by kernel_rfl
  obtain ⟨g, c, w', hr, ho, hO, hg⟩ := app_oneK (P := Try.prog) (ty := 25) bkK hu infoF W v s b h.own (by omega) (by omega) 1
  have hfin := Lib.hid (h.stored (s' := s ++ [b]) hO ho (fun k e => by
    have e2 : g = k := by injection e
    subst e2
    exact hg))
  have e1 : (s ++ [b]).length = s.length + 1 := by simp
  rw [e1] at hfin
  have c0 := h.cell
  have lp := h.lp
  have c0' : w'.cell? ⟨p, 0, none⟩ = some v := (hO.cell (p := ⟨p, 0, none⟩) h.lp (fun e => h.ne e)).trans h.cell
  have f0' : w'.frozen? ⟨p, 0, none⟩ = false := (hO.frozen (p := ⟨p, 0, none⟩) h.lp (fun e => h.ne e)).trans h.fp
  have lp' : p < w'.heap.size := Nat.lt_of_lt_of_le h.lp hO.size
  replace hr := Lib.hid hr
  clear h hO ho hg e1
  generalize s.length = n at *
  unfold Bk.cells at hr
  have hbv : b.val = .func (.func b.fn) #[] b.cap := rfl
  generalize b.fn = bf at *
  generalize b.cap = bc at *
  rw [hbv] at hr ⊢
  clear hbv
  go_enter Try.func31, Try.ntmps31
  go_wp2_with (at_builtin; refine Lib.wpList_append_run _ rfl _ _ _ _ rfl _ _ rfl rfl _ _ hr.out ?_)
  go_end0
  exact ⟨rfl, hfin.out⟩
end
end Go.Proofs.Ytkahohgbcnchiaa
