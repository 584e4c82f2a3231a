/- Rows of accounts, transfers, names and results in memory: their cells, one by one; a row of one's own is such a row. No condition. -/
/- Stage 10: the document's bytes of a transfer, and whether it has any. No condition. -/
/- Stage 22: which requests have bytes, as the document says it (the stages 19, 20 and 22). No condition. -/
import Derived.Test.YtfdanlfiaoedfaaZWqv
import Derived.Test.YtfdanlfiaoedfaaZWqb
import Derived.Test.YtfdanlfiaoedfaaZRwk
import Derived.Test.YtfdanlfiaoedfaaZAsr
import Derived.Test.YtfdanlfiaoedfaaZAf
import Derived.Test.YtfdanlfiaoedfaaZMa
import Derived.Lib.Hide
import Derived.KernelRfl
namespace Go.Proofs.Ytfdanlfiaoedfaa
open Go Go.RowKit Wm

theorem acctW : CellsK Acct.cells 14 := ⟨fun _ => rfl, fun x v hv => by
  unfold Acct.cells at hv
  simp only [List.mem_cons, List.not_mem_nil, or_false] at hv
  rcases hv with rfl | rfl | rfl | rfl | rfl | rfl | rfl | rfl | rfl | rfl | rfl | rfl | rfl | rfl <;> rfl, by decide⟩
theorem tranW : CellsK Tran.cells 16 := ⟨fun _ => rfl, fun x v hv => by
  unfold Tran.cells at hv
  simp only [List.mem_cons, List.not_mem_nil, or_false] at hv
  rcases hv with rfl | rfl | rfl | rfl | rfl | rfl | rfl | rfl | rfl | rfl | rfl | rfl | rfl | rfl | rfl | rfl <;> rfl, by decide⟩
theorem idnW : CellsK Idn.cells 2 := ⟨fun _ => rfl, fun x v hv => by
  unfold Idn.cells at hv
  simp only [List.mem_cons, List.not_mem_nil, or_false] at hv
  rcases hv with rfl | rfl <;> rfl, by decide⟩
theorem resuW : CellsK Resu.cells 1 := ⟨fun _ => rfl, fun x v hv => by
  unfold Resu.cells at hv
  rw [List.mem_singleton.1 hv]
  rfl, by decide⟩
theorem infoAcctW : InfoK Try.prog 58 14 112 := InfoK.mk' (by kernel_rfl)
theorem infoTranW : InfoK Try.prog 61 16 128 := InfoK.mk' (by kernel_rfl)
theorem infoIdnW : InfoK Try.prog 27 2 16 := InfoK.mk' (by kernel_rfl)
theorem infoResuW : InfoK Try.prog 81 1 8 := InfoK.mk' (by kernel_rfl)
section
variable {α : Type} {cs : α → List Value} {K : Nat} {W : World} {ao : Option Addr} {l : List α}
theorem RowAt.at (h : RowAt cs K W ao l) {k : Nat} (hk : k < l.length) : ∃ b off, ao = some ⟨b, off, none⟩ ∧ b < W.heap.size ∧ W.rangeAt b (off + k * K) (cs l[k]) := by
  obtain ⟨b, off, h1, h2, h3⟩ := h.spot k hk
  exact ⟨b, off, h1, h2, fun j v hj => h3 j v hj⟩
theorem RowAt.own (hK : CellsK cs K) {e : TypeId} {v : Value} (h : W.ownsRow 0 e K v l.length (rowK cs l)) : ∃ ao c, v = .slice ao l.length c ∧ RowAt cs K W ao l := by
  rcases own_spot h with ⟨rfl, h0⟩ | ⟨g, c, rfl, hg, -, -, hc, -⟩
  · obtain rfl : l = [] := List.eq_nil_of_length_eq_zero h0
    exact ⟨none, 0, rfl, RowAt.nil⟩
  · refine ⟨some ⟨g, 0, none⟩, c, rfl, ⟨fun k hk => ⟨g, 0, rfl, hg, fun j v hj => ?_⟩⟩⟩
    rw [Nat.zero_add]
    refine hc (k * K + j) v ?_
    have hj2 : j < K := by have := (List.getElem?_eq_some_iff.1 hj).1; rwa [hK.len] at this
    rw [rowK_at hK l k j hk hj2]
    exact hj
theorem RowAt.below {w w2 : World} (h : RowAt cs K w ao l) (hb : Below w.heap.size w w2) : RowAt cs K w2 ao l := h.later hb
end
theorem run_idx_acctW (g o n c i : Nat) (h : i < n) (w : World) : (Instr.indexAt 22 (.slice (some ⟨g, o, none⟩) n c) (.int .i64 (i : Int))).run Try.prog w = .ok (.pointer (some ⟨g, o + i * 14, none⟩)) w :=
  run_idx_K (P := Try.prog) (K := 14) (ty := 22) (e := 58) (by kernel_rfl) (by kernel_rfl) (by kernel_rfl) g o n c i h w
theorem run_idx_tranW (g o n c i : Nat) (h : i < n) (w : World) : (Instr.indexAt 23 (.slice (some ⟨g, o, none⟩) n c) (.int .i64 (i : Int))).run Try.prog w = .ok (.pointer (some ⟨g, o + i * 16, none⟩)) w :=
  run_idx_K (P := Try.prog) (K := 16) (ty := 23) (e := 61) (by kernel_rfl) (by kernel_rfl) (by kernel_rfl) g o n c i h w
theorem run_idx_idnW (g o n c i : Nat) (h : i < n) (w : World) : (Instr.indexAt 24 (.slice (some ⟨g, o, none⟩) n c) (.int .i64 (i : Int))).run Try.prog w = .ok (.pointer (some ⟨g, o + i * 2, none⟩)) w :=
  run_idx_K (P := Try.prog) (K := 2) (ty := 24) (e := 27) (by kernel_rfl) (by kernel_rfl) (by kernel_rfl) g o n c i h w
theorem run_idx_resuW (g o n c i : Nat) (h : i < n) (w : World) : (Instr.indexAt 41 (.slice (some ⟨g, o, none⟩) n c) (.int .i64 (i : Int))).run Try.prog w = .ok (.pointer (some ⟨g, o + i * 1, none⟩)) w :=
  run_idx_K (P := Try.prog) (K := 1) (ty := 41) (e := 81) (by kernel_rfl) (by kernel_rfl) (by kernel_rfl) g o n c i h w
end Go.Proofs.Ytfdanlfiaoedfaa
namespace Go.Proofs.Ytfdanlfiaoedfaa
open Go.RowKit Go.Sort Wm Cr

set_option maxRecDepth 100000 in
set_option maxHeartbeats 1000000 in
theorem refgood_tran (a : Tran) (w : World) : Calls Try.prog 25 #[tranV a] w fun e w' => e = .returned (.bool (goodT a)) ∧ Below w.heap.size w w' := by
  have hz : Below w.heap.size w (w.alloc (.cells a.cells.toArray 61)) := (Below.refl _ _).alloc (Nat.le_refl _) _
  replace hz := Lib.hid hz
  obtain ⟨i, p, q, r, s, u, l, c, f, t, v⟩ := a
  unfold tranV
  unfold Tran.cells at *
  dsimp only at *
  go_enter Try.func25, Try.ntmps25
  go_wp2
  all_goals
    go_ret
    exact ⟨by unfold goodT; first | (simp; done) | (simp; omega) | (simp_all; done) | (simp_all; omega), hz.out⟩
theorem traB_join (a : Tran) : traB a = ((((numB a.Id ++ numB a.Debit) ++ numB a.Credit) ++ numB a.Amount) ++ numB a.Pending) ++ intB 4 a.Timeout ++ intB 4 a.Ledger ++ intB 2 a.Code ++ intB 2 a.Flags ++ intB 8 a.Stamp ++ intB 8 a.Born := rfl
set_option maxRecDepth 100000 in
set_option maxHeartbeats 2000000 in
theorem refbytes_tran (a : Tran) (w : World) : Calls Try.prog 39 #[tranV a] w fun e w' => e = .returned (.string (traB a)) ∧ Below w.heap.size w w' := by
  have hbx := BoxAt.new w a.cells 61
  have hbl : Below w.heap.size w (w.alloc (.cells a.cells.toArray 61)) := (Below.refl _ _).alloc (Nat.le_refl _) _
  obtain ⟨W0, hW0⟩ : ∃ W0, W0 = w.alloc (.cells a.cells.toArray 61) := ⟨_, rfl⟩
  rw [← hW0] at hbx hbl
  have n0 := Lib.hid (fun W (h : Below W0.heap.size W0 W) => ask_behind h (refbytesN_any a.Id W))
  have n1 := Lib.hid (fun W (h : Below W0.heap.size W0 W) => ask_behind h (refbytesN_any a.Debit W))
  have n2 := Lib.hid (fun W (h : Below W0.heap.size W0 W) => ask_behind h (refbytesN_any a.Credit W))
  have n3 := Lib.hid (fun W (h : Below W0.heap.size W0 W) => ask_behind h (refbytesN_any a.Amount W))
  have n4 := Lib.hid (fun W (h : Below W0.heap.size W0 W) => ask_behind h (refbytesN_any a.Pending W))
  have i0 := Lib.hid (fun W (h : Below W0.heap.size W0 W) => ask_behind h (refint_any 4 a.Timeout W))
  have i1 := Lib.hid (fun W (h : Below W0.heap.size W0 W) => ask_behind h (refint_any 4 a.Ledger W))
  have i2 := Lib.hid (fun W (h : Below W0.heap.size W0 W) => ask_behind h (refint_any 2 a.Code W))
  have i3 := Lib.hid (fun W (h : Below W0.heap.size W0 W) => ask_behind h (refint_any 2 a.Flags W))
  have i4 := Lib.hid (fun W (h : Below W0.heap.size W0 W) => ask_behind h (refint_any 8 a.Stamp W))
  have i5 := Lib.hid (fun W (h : Below W0.heap.size W0 W) => ask_behind h (refint_any 8 a.Born W))
  have hj := Lib.hid (traB_join a)
  have hg := Lib.hid (fun W (hb : Below W0.heap.size W0 W) => (hbx.later hb).tran hb)
  have hz0 := numB_size a.Id
  have hz1 := numB_size a.Debit
  have hz2 := numB_size a.Credit
  have hz3 := numB_size a.Amount
  have hz4 := numB_size a.Pending
  have hy0 : (intB 4 a.Timeout).size = 4 := by rw [intB_size]; rfl
  have hy1 : (intB 4 a.Ledger).size = 4 := by rw [intB_size]; rfl
  have hy2 : (intB 2 a.Code).size = 2 := by rw [intB_size]; rfl
  have hy3 : (intB 2 a.Flags).size = 2 := by rw [intB_size]; rfl
  have hy4 : (intB 8 a.Stamp).size = 8 := by rw [intB_size]; rfl
  have hy5 : (intB 8 a.Born).size = 8 := by rw [intB_size]; rfl
  rw [hj.out, tranV_eq]
  unfold numV at n0 n1 n2 n3 n4
  generalize numB a.Id = B0 at *
  generalize numB a.Debit = B1 at *
  generalize numB a.Credit = B2 at *
  generalize numB a.Amount = B3 at *
  generalize numB a.Pending = B4 at *
  generalize intB 4 a.Timeout = B5 at *
  generalize intB 4 a.Ledger = B6 at *
  generalize intB 2 a.Code = B7 at *
  generalize intB 2 a.Flags = B8 at *
  generalize intB 8 a.Stamp = B9 at *
  generalize intB 8 a.Born = B10 at *
  have q1 : (B0 ++ B1).size = 32 := by rw [ByteArray.size_append]; omega
  have q2 : (B0 ++ B1 ++ B2).size = 48 := by rw [ByteArray.size_append]; omega
  have q3 : (B0 ++ B1 ++ B2 ++ B3).size = 64 := by rw [ByteArray.size_append]; omega
  have q4 : (B0 ++ B1 ++ B2 ++ B3 ++ B4).size = 80 := by rw [ByteArray.size_append]; omega
  have q5 : (B0 ++ B1 ++ B2 ++ B3 ++ B4 ++ B5).size = 84 := by rw [ByteArray.size_append]; omega
  have q6 : (B0 ++ B1 ++ B2 ++ B3 ++ B4 ++ B5 ++ B6).size = 88 := by rw [ByteArray.size_append]; omega
  have q7 : (B0 ++ B1 ++ B2 ++ B3 ++ B4 ++ B5 ++ B6 ++ B7).size = 90 := by rw [ByteArray.size_append]; omega
  have q8 : (B0 ++ B1 ++ B2 ++ B3 ++ B4 ++ B5 ++ B6 ++ B7 ++ B8).size = 92 := by rw [ByteArray.size_append]; omega
  have q9 : (B0 ++ B1 ++ B2 ++ B3 ++ B4 ++ B5 ++ B6 ++ B7 ++ B8 ++ B9).size = 100 := by rw [ByteArray.size_append]; omega
  have hd := Lib.hid (fun W (h : Below W0.heap.size W0 W) => h.drew)
  have hm2 := Below.refl W0.heap.size W0
  have hm2d := hm2.drew
  go_enter Try.func39, Try.ntmps39
  go_wp2_with fail
  dsimp only [Tran.cells] at hW0
  rw [← hW0]
  replace hW0 := Lib.hid hW0
  go_region_held3 (fun w' => w'.cell? ⟨w.heap.size, 0, none⟩ = some (.int .u64 ((hiN a.Id : Nat) : Int)) ∧ w'.cell? ⟨w.heap.size, 1, none⟩ = some (.int .u64 ((loN a.Id : Nat) : Int)) ∧ w'.cell? ⟨w.heap.size, 2, none⟩ = some (.int .u64 ((hiN a.Debit : Nat) : Int)) ∧ w'.cell? ⟨w.heap.size, 3, none⟩ = some (.int .u64 ((loN a.Debit : Nat) : Int)) ∧ w'.cell? ⟨w.heap.size, 4, none⟩ = some (.int .u64 ((hiN a.Credit : Nat) : Int)) ∧ w'.cell? ⟨w.heap.size, 5, none⟩ = some (.int .u64 ((loN a.Credit : Nat) : Int)) ∧ w'.cell? ⟨w.heap.size, 6, none⟩ = some (.int .u64 ((hiN a.Amount : Nat) : Int)) ∧ w'.cell? ⟨w.heap.size, 7, none⟩ = some (.int .u64 ((loN a.Amount : Nat) : Int)) ∧ w'.cell? ⟨w.heap.size, 8, none⟩ = some (.int .u64 ((hiN a.Pending : Nat) : Int)) ∧ w'.cell? ⟨w.heap.size, 9, none⟩ = some (.int .u64 ((loN a.Pending : Nat) : Int)) ∧ w'.cell? ⟨w.heap.size, 10, none⟩ = some (.int .i64 a.Timeout) ∧ w'.cell? ⟨w.heap.size, 11, none⟩ = some (.int .i64 a.Ledger) ∧ w'.cell? ⟨w.heap.size, 12, none⟩ = some (.int .i64 a.Code) ∧ w'.cell? ⟨w.heap.size, 13, none⟩ = some (.int .i64 a.Flags) ∧ w'.cell? ⟨w.heap.size, 14, none⟩ = some (.int .i64 a.Stamp) ∧ w'.cell? ⟨w.heap.size, 15, none⟩ = some (.int .i64 a.Born) ∧ w.heap.size < w'.heap.size ∧ Below W0.heap.size W0 w')
    (first | exact hg.out _ hmx | exact hg.out _ (hd.out _ hmx) | exact hg.out _ hm2 | exact hg.out _ hm2d)
    (first | (go_at_call 40; with_reducible refine (n0.out _ (by first | exact hmx | exact hd.out _ hmx | exact hm2 | exact hm2d)).mono ?_; rintro e wx ⟨rfl, hmx⟩) | (go_at_call 40; with_reducible refine (n1.out _ (by first | exact hmx | exact hd.out _ hmx | exact hm2 | exact hm2d)).mono ?_; rintro e wx ⟨rfl, hmx⟩) | (go_at_call 40; with_reducible refine (n2.out _ (by first | exact hmx | exact hd.out _ hmx | exact hm2 | exact hm2d)).mono ?_; rintro e wx ⟨rfl, hmx⟩) | (go_at_call 40; with_reducible refine (n3.out _ (by first | exact hmx | exact hd.out _ hmx | exact hm2 | exact hm2d)).mono ?_; rintro e wx ⟨rfl, hmx⟩) | (go_at_call 40; with_reducible refine (n4.out _ (by first | exact hmx | exact hd.out _ hmx | exact hm2 | exact hm2d)).mono ?_; rintro e wx ⟨rfl, hmx⟩))
  rename_i hH
  have hm3 := hH.2.2.2.2.2.2.2.2.2.2.2.2.2.2.2.2.2
  have hm3d := hm3.drew
  clear hmx hH n0 n1 n2 n3 n4 hm2 hm2d
  go_wp2_with fail
  go_region_held3 (fun w' => w'.cell? ⟨w.heap.size, 0, none⟩ = some (.int .u64 ((hiN a.Id : Nat) : Int)) ∧ w'.cell? ⟨w.heap.size, 1, none⟩ = some (.int .u64 ((loN a.Id : Nat) : Int)) ∧ w'.cell? ⟨w.heap.size, 2, none⟩ = some (.int .u64 ((hiN a.Debit : Nat) : Int)) ∧ w'.cell? ⟨w.heap.size, 3, none⟩ = some (.int .u64 ((loN a.Debit : Nat) : Int)) ∧ w'.cell? ⟨w.heap.size, 4, none⟩ = some (.int .u64 ((hiN a.Credit : Nat) : Int)) ∧ w'.cell? ⟨w.heap.size, 5, none⟩ = some (.int .u64 ((loN a.Credit : Nat) : Int)) ∧ w'.cell? ⟨w.heap.size, 6, none⟩ = some (.int .u64 ((hiN a.Amount : Nat) : Int)) ∧ w'.cell? ⟨w.heap.size, 7, none⟩ = some (.int .u64 ((loN a.Amount : Nat) : Int)) ∧ w'.cell? ⟨w.heap.size, 8, none⟩ = some (.int .u64 ((hiN a.Pending : Nat) : Int)) ∧ w'.cell? ⟨w.heap.size, 9, none⟩ = some (.int .u64 ((loN a.Pending : Nat) : Int)) ∧ w'.cell? ⟨w.heap.size, 10, none⟩ = some (.int .i64 a.Timeout) ∧ w'.cell? ⟨w.heap.size, 11, none⟩ = some (.int .i64 a.Ledger) ∧ w'.cell? ⟨w.heap.size, 12, none⟩ = some (.int .i64 a.Code) ∧ w'.cell? ⟨w.heap.size, 13, none⟩ = some (.int .i64 a.Flags) ∧ w'.cell? ⟨w.heap.size, 14, none⟩ = some (.int .i64 a.Stamp) ∧ w'.cell? ⟨w.heap.size, 15, none⟩ = some (.int .i64 a.Born) ∧ w.heap.size < w'.heap.size ∧ Below W0.heap.size W0 w')
    (first | exact hg.out _ hmy | exact hg.out _ (hd.out _ hmy) | exact hg.out _ hm3 | exact hg.out _ hm3d)
    (first | (go_at_call 37; with_reducible refine (i0.out _ (by first | exact hmy | exact hd.out _ hmy | exact hm3 | exact hm3d)).mono ?_; rintro e wy ⟨rfl, hmy⟩) | (go_at_call 37; with_reducible refine (i1.out _ (by first | exact hmy | exact hd.out _ hmy | exact hm3 | exact hm3d)).mono ?_; rintro e wy ⟨rfl, hmy⟩) | (go_at_call 37; with_reducible refine (i2.out _ (by first | exact hmy | exact hd.out _ hmy | exact hm3 | exact hm3d)).mono ?_; rintro e wy ⟨rfl, hmy⟩) | (go_at_call 37; with_reducible refine (i3.out _ (by first | exact hmy | exact hd.out _ hmy | exact hm3 | exact hm3d)).mono ?_; rintro e wy ⟨rfl, hmy⟩))
  rename_i hH2
  have hm4 := hH2.2.2.2.2.2.2.2.2.2.2.2.2.2.2.2.2.2
  have hm4d := hm4.drew
  clear hmy hH2 i0 i1 i2 i3 hm3 hm3d
  go_wp2_with fail
  go_region_held3 (fun w' => w'.cell? ⟨w.heap.size, 0, none⟩ = some (.int .u64 ((hiN a.Id : Nat) : Int)) ∧ w'.cell? ⟨w.heap.size, 1, none⟩ = some (.int .u64 ((loN a.Id : Nat) : Int)) ∧ w'.cell? ⟨w.heap.size, 2, none⟩ = some (.int .u64 ((hiN a.Debit : Nat) : Int)) ∧ w'.cell? ⟨w.heap.size, 3, none⟩ = some (.int .u64 ((loN a.Debit : Nat) : Int)) ∧ w'.cell? ⟨w.heap.size, 4, none⟩ = some (.int .u64 ((hiN a.Credit : Nat) : Int)) ∧ w'.cell? ⟨w.heap.size, 5, none⟩ = some (.int .u64 ((loN a.Credit : Nat) : Int)) ∧ w'.cell? ⟨w.heap.size, 6, none⟩ = some (.int .u64 ((hiN a.Amount : Nat) : Int)) ∧ w'.cell? ⟨w.heap.size, 7, none⟩ = some (.int .u64 ((loN a.Amount : Nat) : Int)) ∧ w'.cell? ⟨w.heap.size, 8, none⟩ = some (.int .u64 ((hiN a.Pending : Nat) : Int)) ∧ w'.cell? ⟨w.heap.size, 9, none⟩ = some (.int .u64 ((loN a.Pending : Nat) : Int)) ∧ w'.cell? ⟨w.heap.size, 10, none⟩ = some (.int .i64 a.Timeout) ∧ w'.cell? ⟨w.heap.size, 11, none⟩ = some (.int .i64 a.Ledger) ∧ w'.cell? ⟨w.heap.size, 12, none⟩ = some (.int .i64 a.Code) ∧ w'.cell? ⟨w.heap.size, 13, none⟩ = some (.int .i64 a.Flags) ∧ w'.cell? ⟨w.heap.size, 14, none⟩ = some (.int .i64 a.Stamp) ∧ w'.cell? ⟨w.heap.size, 15, none⟩ = some (.int .i64 a.Born) ∧ w.heap.size < w'.heap.size ∧ Below W0.heap.size W0 w')
    (first | exact hg.out _ hmz | exact hg.out _ (hd.out _ hmz) | exact hg.out _ hm4 | exact hg.out _ hm4d)
    (first | (go_at_call 37; with_reducible refine (i4.out _ (by first | exact hmz | exact hd.out _ hmz | exact hm4 | exact hm4d)).mono ?_; rintro e wz ⟨rfl, hmz⟩) | (go_at_call 37; with_reducible refine (i5.out _ (by first | exact hmz | exact hd.out _ hmz | exact hm4 | exact hm4d)).mono ?_; rintro e wz ⟨rfl, hmz⟩))
  rename_i hH3
  have hm5 := hH3.2.2.2.2.2.2.2.2.2.2.2.2.2.2.2.2.2
  go_wp2
  go_ret
  exact ⟨by first | rfl | simp, hbl.trans (hm5.mono hbl.size)⟩
end Go.Proofs.Ytfdanlfiaoedfaa
namespace Go.Proofs.Ytfdanlfiaoedfaa
open Go.RowKit Go.Sort Wm Cr

def good19 (q : Req) : Bool := if q.Op = 1 then fewB q.Accounts.length 9 else if q.Op = 2 then fewB q.Transfers.length 9 else decide (q.Op = 3 ∧ 0 ≤ q.Now ∧ q.Now ≤ 1099511627776)
def good20 (q : Req) : Bool := if q.Op = 4 then fewB q.Ids.length 17 else if q.Op = 5 then fewB q.Ids.length 17 else decide (q.Op = 6) && goodF q.Filter
end Go.Proofs.Ytfdanlfiaoedfaa
