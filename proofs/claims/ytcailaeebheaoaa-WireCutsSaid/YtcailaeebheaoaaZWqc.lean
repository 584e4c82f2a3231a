/- Rows of accounts, transfers, names and results in memory: their cells, one by one; a row of one's own is such a row. No condition. -/
/- Stage 22: which requests have bytes, as the document says it (the stages 19, 20 and 22). No condition. -/
import Derived.Test.YtcailaeebheaoaaZWqv
import Derived.Test.YtcailaeebheaoaaZWqb
import Derived.Test.YtcailaeebheaoaaZRwk
import Derived.Test.YtcailaeebheaoaaZAsr
import Derived.Test.YtcailaeebheaoaaZAf
import Derived.Test.YtcailaeebheaoaaZXg
import Derived.Lib.Hide
import Derived.KernelRfl
namespace Go.Proofs.Ytcailaeebheaoaa
open Go Go.RowKit Wm

theorem acctW : CellsK Acct.cells 14 := ⟨fun _ => rfl, fun x v hv => by
  unfold Acct.cells at hv
  simp only [List.mem_cons, List.not_mem_nil, or_false] at hv
  rcases hv with rfl | rfl | rfl | rfl | rfl | rfl | rfl | rfl | rfl | rfl | rfl | rfl | rfl | rfl <;> rfl, by decide⟩
theorem tranW : CellsK Tran.cells 16 := ⟨fun _ => rfl, fun x v hv => by
  unfold Tran.cells at hv
  simp only [List.mem_cons, List.not_mem_nil, or_false] at hv
  rcases hv with rfl | rfl | rfl | rfl | rfl | rfl | rfl | rfl | rfl | rfl | rfl | rfl | rfl | rfl | rfl | rfl <;> rfl, by decide⟩
theorem idnW : CellsK Idn.cells 2 := ⟨fun _ => rfl, fun x v hv => by
  unfold Idn.cells at hv
  simp only [List.mem_cons, List.not_mem_nil, or_false] at hv
  rcases hv with rfl | rfl <;> rfl, by decide⟩
theorem infoAcctW : InfoK Try.prog 58 14 112 := InfoK.mk' (by kernel_rfl)
theorem infoTranW : InfoK Try.prog 61 16 128 := InfoK.mk' (by kernel_rfl)
theorem infoIdnW : InfoK Try.prog 27 2 16 := InfoK.mk' (by kernel_rfl)
section
variable {α : Type} {cs : α → List Value} {K : Nat} {W : World} {ao : Option Addr} {l : List α}
theorem RowAt.at (h : RowAt cs K W ao l) {k : Nat} (hk : k < l.length) : ∃ b off, ao = some ⟨b, off, none⟩ ∧ b < W.heap.size ∧ W.rangeAt b (off + k * K) (cs l[k]) := by
  obtain ⟨b, off, h1, h2, h3⟩ := h.spot k hk
  exact ⟨b, off, h1, h2, fun j v hj => h3 j v hj⟩
theorem RowAt.own (hK : CellsK cs K) {e : TypeId} {v : Value} (h : W.ownsRow 0 e K v l.length (rowK cs l)) : ∃ ao c, v = .slice ao l.length c ∧ RowAt cs K W ao l := by
  rcases own_spot h with ⟨rfl, h0⟩ | ⟨g, c, rfl, hg, -, -, hc, -⟩
  · obtain rfl : l = [] := List.eq_nil_of_length_eq_zero h0
    exact ⟨none, 0, rfl, RowAt.nil⟩
  · refine ⟨some ⟨g, 0, none⟩, c, rfl, ⟨fun k hk => ⟨g, 0, rfl, hg, fun j v hj => ?_⟩⟩⟩
    rw [Nat.zero_add]
    refine hc (k * K + j) v ?_
    have hj2 : j < K := by have := (List.getElem?_eq_some_iff.1 hj).1; rwa [hK.len] at this
    rw [rowK_at hK l k j hk hj2]
    exact hj
theorem RowAt.below {w w2 : World} (h : RowAt cs K w ao l) (hb : Below w.heap.size w w2) : RowAt cs K w2 ao l := h.later hb
end
theorem run_idx_acctW (g o n c i : Nat) (h : i < n) (w : World) : (Instr.indexAt 22 (.slice (some ⟨g, o, none⟩) n c) (.int .i64 (i : Int))).run Try.prog w = .ok (.pointer (some ⟨g, o + i * 14, none⟩)) w :=
  run_idx_K (P := Try.prog) (K := 14) (ty := 22) (e := 58) (by kernel_rfl) (by kernel_rfl) (by kernel_rfl) g o n c i h w
theorem run_idx_tranW (g o n c i : Nat) (h : i < n) (w : World) : (Instr.indexAt 23 (.slice (some ⟨g, o, none⟩) n c) (.int .i64 (i : Int))).run Try.prog w = .ok (.pointer (some ⟨g, o + i * 16, none⟩)) w :=
  run_idx_K (P := Try.prog) (K := 16) (ty := 23) (e := 61) (by kernel_rfl) (by kernel_rfl) (by kernel_rfl) g o n c i h w
theorem run_idx_idnW (g o n c i : Nat) (h : i < n) (w : World) : (Instr.indexAt 24 (.slice (some ⟨g, o, none⟩) n c) (.int .i64 (i : Int))).run Try.prog w = .ok (.pointer (some ⟨g, o + i * 2, none⟩)) w :=
  run_idx_K (P := Try.prog) (K := 2) (ty := 24) (e := 27) (by kernel_rfl) (by kernel_rfl) (by kernel_rfl) g o n c i h w
end Go.Proofs.Ytcailaeebheaoaa
namespace Go.Proofs.Ytcailaeebheaoaa
open Go.RowKit Go.Sort Wm Cr

def good19 (q : Req) : Bool := if q.Op = 1 then fewB q.Accounts.length 9 else if q.Op = 2 then fewB q.Transfers.length 9 else decide (q.Op = 3 ∧ 0 ≤ q.Now ∧ q.Now ≤ 1099511627776)
def good20 (q : Req) : Bool := if q.Op = 4 then fewB q.Ids.length 17 else if q.Op = 5 then fewB q.Ids.length 17 else decide (q.Op = 6) && goodF q.Filter
set_option maxRecDepth 100000 in
set_option maxHeartbeats 2000000 in
theorem refgood19_any (q : Req) (s : Reqs) (w : World) : Calls Try.prog 22 #[reqV q s] w fun e w' => e = .returned (.bool (good19 q)) ∧ Below w.heap.size w w' := by
  have hz := Lib.hid (fun (cs : Array Value) (t : TypeId) => (Below.refl w.heap.size w).alloc (Nat.le_refl _) (.cells cs t))
  have hz2 := Lib.hid (fun (cs ds : Array Value) (t u : TypeId) => ((Below.refl w.heap.size w).alloc (Nat.le_refl _) (.cells cs t)).alloc (by simp) (.cells ds u))
  obtain ⟨op, acs, ts, now, ids, ⟨ac, fr, tt, db, cr, la, li⟩⟩ := q
  obtain ⟨sA, sAc, sT, sTc, sI, sIc⟩ := s
  unfold reqV
  unfold good19 fewB
  dsimp only at *
  generalize acs.length = na at *
  generalize ts.length = nt at *
  generalize ids.length = ni at *
  go_enter Try.func22, Try.ntmps22
  go_wp2
  all_goals
    go_ret
    exact ⟨by first | rfl | (simp; done) | (simp; omega) | (simp_all; done) | (simp_all; omega), by first | exact hz.out _ _ | exact hz2.out _ _ _ _⟩
set_option maxRecDepth 100000 in
set_option maxHeartbeats 2000000 in
theorem refgood20_any (q : Req) (s : Reqs) (w : World) : Calls Try.prog 23 #[reqV q s] w fun e w' => e = .returned (.bool (good20 q)) ∧ Below w.heap.size w w' := by
  have hz := Lib.hid (fun (cs : Array Value) (t : TypeId) => (Below.refl w.heap.size w).alloc (Nat.le_refl _) (.cells cs t))
  have hz2 := Lib.hid (fun (cs ds : Array Value) (t u : TypeId) => ((Below.refl w.heap.size w).alloc (Nat.le_refl _) (.cells cs t)).alloc (by simp) (.cells ds u))
  obtain ⟨op, acs, ts, now, ids, ⟨ac, fr, tt, db, cr, la, li⟩⟩ := q
  obtain ⟨sA, sAc, sT, sTc, sI, sIc⟩ := s
  unfold reqV
  unfold good20 fewB goodF
  dsimp only at *
  generalize acs.length = na at *
  generalize ts.length = nt at *
  generalize ids.length = ni at *
  go_enter Try.func23, Try.ntmps23
  go_wp2
  all_goals
    go_ret
    exact ⟨by first | rfl | (simp; done) | (simp; omega) | (simp_all; done) | (simp_all; omega), by first | exact hz.out _ _ | exact hz2.out _ _ _ _⟩
end Go.Proofs.Ytcailaeebheaoaa
