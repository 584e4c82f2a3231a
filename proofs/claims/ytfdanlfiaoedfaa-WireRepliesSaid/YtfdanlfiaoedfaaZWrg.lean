/- Stage 22: the document's Same, of equal rows: yes. No condition. -/
import Derived.Test.YtfdanlfiaoedfaaZMa
import Derived.Test.YtfdanlfiaoedfaaZWrb
namespace Go.Proofs.Ytfdanlfiaoedfaa
open Go.RowKit Go.Sort Wm Cr

theorem neq_acct_self (x : Acct) (w : World) : (binOp .neq 58 (.agg x.cells.toArray) (.agg x.cells.toArray)).run Try.prog w = .ok (.bool false) w := by
  have := run_neq_accts x x w
  rw [@decide_eq_true _ (Classical.propDecidable _) (rfl : x = x)] at this
  exact this
theorem neq_tran_self (x : Tran) (w : World) : (binOp .neq 61 (.agg x.cells.toArray) (.agg x.cells.toArray)).run Try.prog w = .ok (.bool false) w := by
  have := run_equal_tran x x w
  rw [@decide_eq_true _ (Classical.propDecidable _) (rfl : x = x)] at this
  unfold tranV at this
  rw [run_neq_struct, this]; rfl
set_option maxRecDepth 100000 in
set_option maxHeartbeats 8000000 in
theorem refSame_any (acs : List Acct) (ts : List Tran) (o1 o2 o3 o4 : Option Addr) (c1 c2 c3 c4 : Nat) (W : World) (r1 : RowAt Acct.cells 14 W o1 acs) (r2 : RowAt Acct.cells 14 W o2 acs) (r3 : RowAt Tran.cells 16 W o3 ts) (r4 : RowAt Tran.cells 16 W o4 ts) (la : acs.length ≤ 140737488351232) (lt : ts.length ≤ 140737488351232) :
    Calls Try.prog 21 #[.slice o1 acs.length c1, .slice o2 acs.length c2, .slice o3 ts.length c3, .slice o4 ts.length c4] W fun e W' => e = .returned (.bool true) ∧ Below W.heap.size W W' := by
  replace r1 := Lib.hid (fun (W' : World) (hb : Below W.heap.size W W') => r1.later hb)
  replace r2 := Lib.hid (fun (W' : World) (hb : Below W.heap.size W W') => r2.later hb)
  replace r3 := Lib.hid (fun (W' : World) (hb : Below W.heap.size W W') => r3.later hb)
  replace r4 := Lib.hid (fun (W' : World) (hb : Below W.heap.size W W') => r4.later hb)
  have hb0 := Lib.hid (Below.refl W.heap.size W)
  go_enter Try.func21, Try.ntmps21
  go_wp2_with fail
  go_loopw [25] (fun iv wr => ∃ i : Nat, i ≤ acs.length ∧ iv = .int .i64 i ∧ Below W.heap.size W wr) (fun iv _ => (acs.length - RowKit.intOf iv).toNat)
  case atStart => exact ⟨0, by omega, rfl, hb0.out⟩
  case round =>
    clear hb0
    obtain ⟨i, hi, rfl, hb⟩ := hrel
    by_cases hlt : i < acs.length
    · obtain ⟨g1, f1, rfl, hg1, hr1⟩ := (r1.out wr hb).at hlt
      obtain ⟨g2, f2, rfl, hg2, hr2⟩ := (r2.out wr hb).at hlt
      have hx1 := Lib.hid (fun w => run_idx_acctW g1 f1 acs.length c1 i hlt w)
      have hx2 := Lib.hid (fun w => run_idx_acctW g2 f2 acs.length c2 i hlt w)
      have hltI : ((i : Nat) : Int) < ((acs.length : Nat) : Int) := by omega
      have hi4 := Lib.hid (show (Try.prog.info? 58).map (·.size) = some (Acct.cells acs[i]).length by kernel_rfl)
      have hnq := fun w => neq_acct_self acs[i] w
      have hS1 : wr.drew.rangeAt g1 (f1 + i * 14) (Acct.cells acs[i]) := hr1
      have hS2 : wr.drew.rangeAt g2 (f2 + i * 14) (Acct.cells acs[i]) := hr2
      generalize Acct.cells acs[i] = X at *
      clear hr1 hr2
      have hbd := Lib.hid (hb.drew)
      clear hb
      go_wp2_with fail
      generalize hw5 : wr.drew = w5 at *
      refine wp_region_need (fun _ => True) [0, 1, 2, 4, 5, 6] (by kernel_rfl) ?_
      rw [hw5]
      clear hw5
      refine need_takeL (i := 0) (v := ?cv51) rfl rfl (by kernel_rfl) (by kernel_rfl) (by kernel_rfl) (fun _ _ _ h => h) (Or.inl ⟨by rfl, ?ch51⟩) trivial ?cr51
      case ch51 => (intro w' hSw; (try dsimp only at hSw); go_simp; first | done | with_reducible rfl)
      try simp only [Act.put, List.setIfInBounds_toArray, List.set_cons_zero, List.set_cons_succ]
      refine need_takeL (i := 1) (v := ?cv54) rfl rfl (by kernel_rfl) (by kernel_rfl) (by kernel_rfl) (fun _ _ _ h => h) (Or.inl ⟨by rfl, ?ch54⟩) trivial ?cr54
      case ch54 => (intro w' hSw; (try dsimp only at hSw); go_simp; first | done | with_reducible rfl)
      try simp only [Act.put, List.setIfInBounds_toArray, List.set_cons_zero, List.set_cons_succ]
      refine need_takeL (i := 2) rfl rfl (by kernel_rfl) (by kernel_rfl) (by kernel_rfl) (fun _ _ _ h => h) (yields_index rfl (.slice (some ⟨g1, f1, none⟩) acs.length c1) (.int .i64 (i : Int)) _ rfl rfl (fun _ => hx1.out _)) trivial ?_
      try simp only [Act.put, List.setIfInBounds_toArray, List.set_cons_zero, List.set_cons_succ]
      refine need_takeL (i := 4) (v := ?cv59) rfl rfl (by kernel_rfl) (by kernel_rfl) (by kernel_rfl) (fun _ _ _ h => h) (Or.inl ⟨by rfl, ?ch59⟩) trivial ?cr59
      case ch59 => (intro w' hSw; (try dsimp only at hSw); go_simp; first | done | with_reducible rfl)
      try simp only [Act.put, List.setIfInBounds_toArray, List.set_cons_zero, List.set_cons_succ]
      refine need_takeL (i := 5) (v := ?cv62) rfl rfl (by kernel_rfl) (by kernel_rfl) (by kernel_rfl) (fun _ _ _ h => h) (Or.inl ⟨by rfl, ?ch62⟩) trivial ?cr62
      case ch62 => (intro w' hSw; (try dsimp only at hSw); go_simp; first | done | with_reducible rfl)
      try simp only [Act.put, List.setIfInBounds_toArray, List.set_cons_zero, List.set_cons_succ]
      refine need_takeL (i := 6) rfl rfl (by kernel_rfl) (by kernel_rfl) (by kernel_rfl) (fun _ _ _ h => h) (yields_index rfl (.slice (some ⟨g2, f2, none⟩) acs.length c2) (.int .i64 (i : Int)) _ rfl rfl (fun _ => hx2.out _)) trivial ?_
      try simp only [Act.put, List.setIfInBounds_toArray, List.set_cons_zero, List.set_cons_succ]
      refine need_from (S2 := fun w' => w'.rangeAt g1 (f1 + i * 14) X ∧ w'.rangeAt g2 (f2 + i * 14) X) (need2 := [3, 7, 8]) (fun _ => trivial) _ _ _ _ ?_
      refine need_takeL (i := 3) rfl rfl (by kernel_rfl) (by kernel_rfl) (by kernel_rfl) (fun _ _ _ h => h) (yields_loads rfl (g1) (f1 + i * 14) rfl (X) _ (fun w' hSw => hSw.1) Try.underlying58 rfl hi4.out) ⟨hS1, hS2⟩ ?_
      try simp only [Act.put, List.setIfInBounds_toArray, List.set_cons_zero, List.set_cons_succ]
      refine need_takeL (i := 7) rfl rfl (by kernel_rfl) (by kernel_rfl) (by kernel_rfl) (fun _ _ _ h => h) (yields_loads rfl (g2) (f2 + i * 14) rfl (X) _ (fun w' hSw => hSw.2) Try.underlying58 rfl hi4.out) ⟨hS1, hS2⟩ ?_
      try simp only [Act.put, List.setIfInBounds_toArray, List.set_cons_zero, List.set_cons_succ]
      refine need_takeL (i := 8) (v := ?cv72) rfl rfl (by kernel_rfl) (by kernel_rfl) (by kernel_rfl) (fun _ _ _ h => h) (Or.inl ⟨by rfl, ?ch72⟩) ⟨hS1, hS2⟩ ?cr72
      case ch72 => (intro w' hSw; (try dsimp only at hSw); go_simp; first | done | with_reducible rfl)
      try simp only [Act.put, List.setIfInBounds_toArray, List.set_cons_zero, List.set_cons_succ]
      refine need_done (by kernel_rfl) ?_ _
      clear hS1 hS2 hnq
      go_wp2_with fail
      exact ⟨⟨i + 1, by omega, by go_num, hbd.out⟩, by simp [RowKit.intOf]; omega⟩
    · obtain rfl : i = acs.length := by omega
      clear r1 r2
      have hb0 := Lib.hid hb
      clear hb
      go_wp2_with fail
      go_loopw [40] (fun iv wr => ∃ i : Nat, i ≤ ts.length ∧ iv = .int .i64 i ∧ Below W.heap.size W wr) (fun iv _ => (ts.length - RowKit.intOf iv).toNat)
      case atStart => exact ⟨0, by omega, rfl, hb0.out⟩
      case round =>
        clear hb0
        obtain ⟨i, hi, rfl, hb⟩ := hrel
        by_cases hlt : i < ts.length
        · obtain ⟨g1, f1, rfl, hg1, hr1⟩ := (r3.out wr hb).at hlt
          obtain ⟨g2, f2, rfl, hg2, hr2⟩ := (r4.out wr hb).at hlt
          have hx1 := Lib.hid (fun w => run_idx_tranW g1 f1 ts.length c3 i hlt w)
          have hx2 := Lib.hid (fun w => run_idx_tranW g2 f2 ts.length c4 i hlt w)
          have hltI : ((i : Nat) : Int) < ((ts.length : Nat) : Int) := by omega
          have hi4 := Lib.hid (show (Try.prog.info? 61).map (·.size) = some (Tran.cells ts[i]).length by kernel_rfl)
          have hnq := fun w => neq_tran_self ts[i] w
          have hS1 : wr.drew.rangeAt g1 (f1 + i * 16) (Tran.cells ts[i]) := hr1
          have hS2 : wr.drew.rangeAt g2 (f2 + i * 16) (Tran.cells ts[i]) := hr2
          generalize Tran.cells ts[i] = X at *
          clear hr1 hr2
          have hbd := Lib.hid (hb.drew)
          clear hb
          go_wp2_with fail
          generalize hw5 : wr.drew = w5 at *
          refine wp_region_need (fun _ => True) [0, 1, 2, 4, 5, 6] (by kernel_rfl) ?_
          rw [hw5]
          clear hw5
          refine need_takeL (i := 0) (v := ?cv108) rfl rfl (by kernel_rfl) (by kernel_rfl) (by kernel_rfl) (fun _ _ _ h => h) (Or.inl ⟨by rfl, ?ch108⟩) trivial ?cr108
          case ch108 => (intro w' hSw; (try dsimp only at hSw); go_simp; first | done | with_reducible rfl)
          try simp only [Act.put, List.setIfInBounds_toArray, List.set_cons_zero, List.set_cons_succ]
          refine need_takeL (i := 1) (v := ?cv111) rfl rfl (by kernel_rfl) (by kernel_rfl) (by kernel_rfl) (fun _ _ _ h => h) (Or.inl ⟨by rfl, ?ch111⟩) trivial ?cr111
          case ch111 => (intro w' hSw; (try dsimp only at hSw); go_simp; first | done | with_reducible rfl)
          try simp only [Act.put, List.setIfInBounds_toArray, List.set_cons_zero, List.set_cons_succ]
          refine need_takeL (i := 2) rfl rfl (by kernel_rfl) (by kernel_rfl) (by kernel_rfl) (fun _ _ _ h => h) (yields_index rfl (.slice (some ⟨g1, f1, none⟩) ts.length c3) (.int .i64 (i : Int)) _ rfl rfl (fun _ => hx1.out _)) trivial ?_
          try simp only [Act.put, List.setIfInBounds_toArray, List.set_cons_zero, List.set_cons_succ]
          refine need_takeL (i := 4) (v := ?cv116) rfl rfl (by kernel_rfl) (by kernel_rfl) (by kernel_rfl) (fun _ _ _ h => h) (Or.inl ⟨by rfl, ?ch116⟩) trivial ?cr116
          case ch116 => (intro w' hSw; (try dsimp only at hSw); go_simp; first | done | with_reducible rfl)
          try simp only [Act.put, List.setIfInBounds_toArray, List.set_cons_zero, List.set_cons_succ]
          refine need_takeL (i := 5) (v := ?cv119) rfl rfl (by kernel_rfl) (by kernel_rfl) (by kernel_rfl) (fun _ _ _ h => h) (Or.inl ⟨by rfl, ?ch119⟩) trivial ?cr119
          case ch119 => (intro w' hSw; (try dsimp only at hSw); go_simp; first | done | with_reducible rfl)
          try simp only [Act.put, List.setIfInBounds_toArray, List.set_cons_zero, List.set_cons_succ]
          refine need_takeL (i := 6) rfl rfl (by kernel_rfl) (by kernel_rfl) (by kernel_rfl) (fun _ _ _ h => h) (yields_index rfl (.slice (some ⟨g2, f2, none⟩) ts.length c4) (.int .i64 (i : Int)) _ rfl rfl (fun _ => hx2.out _)) trivial ?_
          try simp only [Act.put, List.setIfInBounds_toArray, List.set_cons_zero, List.set_cons_succ]
          refine need_from (S2 := fun w' => w'.rangeAt g1 (f1 + i * 16) X ∧ w'.rangeAt g2 (f2 + i * 16) X) (need2 := [3, 7, 8]) (fun _ => trivial) _ _ _ _ ?_
          refine need_takeL (i := 3) rfl rfl (by kernel_rfl) (by kernel_rfl) (by kernel_rfl) (fun _ _ _ h => h) (yields_loads rfl (g1) (f1 + i * 16) rfl (X) _ (fun w' hSw => hSw.1) Try.underlying61 rfl hi4.out) ⟨hS1, hS2⟩ ?_
          try simp only [Act.put, List.setIfInBounds_toArray, List.set_cons_zero, List.set_cons_succ]
          refine need_takeL (i := 7) rfl rfl (by kernel_rfl) (by kernel_rfl) (by kernel_rfl) (fun _ _ _ h => h) (yields_loads rfl (g2) (f2 + i * 16) rfl (X) _ (fun w' hSw => hSw.2) Try.underlying61 rfl hi4.out) ⟨hS1, hS2⟩ ?_
          try simp only [Act.put, List.setIfInBounds_toArray, List.set_cons_zero, List.set_cons_succ]
          refine need_takeL (i := 8) (v := ?cv129) rfl rfl (by kernel_rfl) (by kernel_rfl) (by kernel_rfl) (fun _ _ _ h => h) (Or.inl ⟨by rfl, ?ch129⟩) ⟨hS1, hS2⟩ ?cr129
          case ch129 => (intro w' hSw; (try dsimp only at hSw); go_simp; first | done | with_reducible rfl)
          try simp only [Act.put, List.setIfInBounds_toArray, List.set_cons_zero, List.set_cons_succ]
          refine need_done (by kernel_rfl) ?_ _
          clear hS1 hS2 hnq
          go_wp2_with fail
          exact ⟨⟨i + 1, by omega, by go_num, hbd.out⟩, by simp [RowKit.intOf]; omega⟩
        · obtain rfl : i = ts.length := by omega
          clear r3 r4
          replace hb := Lib.hid hb
          go_wp2
          go_ret
          exact ⟨rfl, hb.out⟩
end Go.Proofs.Ytfdanlfiaoedfaa
