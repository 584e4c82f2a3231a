/- Stage 22, landed: which requests have bytes. No condition. -/
import Derived.Test.YtfdanlfiaoedfaaZWqc
import Derived.Test.YtfdanlfiaoedfaaZKe
import Derived.Test.YtfdanlfiaoedfaaZMe
namespace Go.Proofs.Ytfdanlfiaoedfaa
open Go.RowKit Go.Sort Wm Cr

set_option maxRecDepth 100000 in
set_option maxHeartbeats 2000000 in
theorem engGood_any (q : Req) (s : Reqs) (w : World) : Calls Try.prog 28 #[reqV q s] w fun e w' => e = .returned (.bool (good19 q)) ∧ Below w.heap.size w w' := by
  have hz := Lib.hid (fun (cs : Array Value) (t : TypeId) => (Below.refl w.heap.size w).alloc (Nat.le_refl _) (.cells cs t))
  have hz2 := Lib.hid (fun (cs ds : Array Value) (t u : TypeId) => ((Below.refl w.heap.size w).alloc (Nat.le_refl _) (.cells cs t)).alloc (by simp) (.cells ds u))
  obtain ⟨op, acs, ts, now, ids, ⟨ac, fr, tt, db, cr, la, li⟩⟩ := q
  obtain ⟨sA, sAc, sT, sTc, sI, sIc⟩ := s
  unfold reqV
  unfold good19 fewB
  dsimp only at *
  generalize acs.length = na at *
  generalize ts.length = nt at *
  generalize ids.length = ni at *
  go_enter Try.func28, Try.ntmps28
  go_wp2
  all_goals
    go_ret
    exact ⟨by first | rfl | (simp; done) | (simp_all; done) | (refine congrArg (fun b : Bool => Ending.returned (.bool b)) ?_; rw [Bool.eq_iff_iff]; simp; omega) | (refine congrArg (fun b : Bool => Ending.returned (.bool b)) ?_; rw [Bool.eq_iff_iff]; simp_all; omega), by first | exact hz.out _ _ | exact hz2.out _ _ _ _⟩
theorem all_bad {α : Type} {f : α → Bool} {l : List α} {i : Nat} (hi : i < l.length) (hq : f l[i] = false) : l.all f = false := by
  rw [Bool.eq_false_iff]
  intro h
  rw [List.all_eq_true.1 h _ (List.getElem_mem hi)] at hq
  cases hq
theorem all_good {α : Type} {f : α → Bool} {l : List α} (h : ∀ j (hj : j < l.length), f l[j] = true) : l.all f = true := by
  rw [List.all_eq_true]
  intro x hx
  obtain ⟨j, hj, rfl⟩ := List.getElem_of_mem hx
  exact h j hj
set_option maxRecDepth 100000 in
set_option maxHeartbeats 2000000 in
theorem allAcct_any (l : List Acct) (ao : Option Addr) (cap : Nat) (W : World) (h : RowAt Acct.cells 14 W ao l) (hl : l.length ≤ 140737488351232) :
    Calls Try.prog 29 #[.slice ao l.length cap, .func (.func 30) #[] #[]] W fun e W' => e = .returned (.bool (l.all goodA)) ∧ Below W.heap.size W W' := by
  have hat := Lib.hid (fun (i : Nat) (hi : i < l.length) (hq : goodA l[i] = false) => all_bad (f := goodA) hi hq)
  have hno := Lib.hid (all_good (f := goodA) (l := l))
  generalize hr : l.all goodA = r at *
  clear hr
  have hrow := Lib.hid (fun (W' : World) (hb : Below W.heap.size W W') => h.later hb)
  have hb0 := Lib.hid (Below.refl W.heap.size W)
  have eg : ∀ args w, (callFunc 30 args).run Try.prog w = .ok (.enter 30 args) w := enters_of Try.func30 (by kernel_rfl) rfl
  clear h
  go_enter Try.func29, Try.ntmps29
  go_wp2_with fail
  go_loopw [9] (fun iv wr => ∃ i : Nat, i ≤ l.length ∧ iv = .int .i64 i ∧ (∀ j (hj : j < l.length), j < i → goodA l[j] = true) ∧ Below W.heap.size W wr) (fun iv _ => (l.length - RowKit.intOf iv).toNat)
  case atStart => exact ⟨0, by omega, rfl, fun j hj h => by omega, hb0.out⟩
  case round =>
    clear hb0
    obtain ⟨i, hi, rfl, hne, hb⟩ := hrel
    by_cases hlt : i < l.length
    · obtain ⟨g, off, rfl, hg, hrg⟩ := (hrow.out wr hb).at hlt
      have hix := Lib.hid (fun w => run_idx_acctW g off l.length cap i hlt w)
      have hat1 := Lib.hid (hat.out i hlt)
      have hltI : ((i : Nat) : Int) < ((l.length : Nat) : Int) := by omega
      have hi4 := Lib.hid (show (Try.prog.info? 58).map (·.size) = some (Acct.cells l[i]).length by kernel_rfl)
      have hi5 := Lib.hid (show (Try.prog.info? 58).map (·.size) = some (Acct.cells l[i]).toArray.size by kernel_rfl)
      have hone := Lib.hid (all_oneCell_toArray (acctW.one l[i]))
      have hcz : ∀ z : Array Value, z.size = 14 → z.size = (Acct.cells l[i]).toArray.size := fun z h => h
      replace hcz := Lib.hid hcz
      have hnx := Lib.hid (fun (hq : goodA l[i] = true) (j : Nat) (hj : j < l.length) (hji : j < i + 1) => (show goodA l[j] = true from by
        by_cases e : j = i
        · subst e; exact hq
        · exact hne j hj (by omega)))
      clear hne
      obtain ⟨W2, hW2⟩ : ∃ W2, W2 = wr.alloc (.cells (Acct.cells l[i]).toArray 58) := ⟨_, rfl⟩
      have hb2 : Below wr.heap.size wr W2 := by rw [hW2]; exact (Below.refl _ _).alloc (Nat.le_refl _) _
      have hx := Lib.hid (show W2.rangeAt wr.heap.size 0 (Acct.cells l[i]) by rw [hW2]; exact (BoxAt.new wr (Acct.cells l[i]) _).range)
      have hc := acGood_any l[i] W2
      have hbe := Lib.hid (hb.trans (hb2.mono hb.size))
      replace hrg := Lib.hid hrg
      unfold acctV at hc
      replace hc := Lib.hid hc
      replace hW2 := Lib.hid hW2
      generalize Acct.cells l[i] = X at *
      clear hb hb2 hrow hat hno
      cases hq : goodA l[i] with
      | false =>
        have hrr := Lib.hid (hat1.out hq)
        clear hat1 hnx
        rw [hq] at hc
        clear hq
        go_wp2_with (first
          | (refine wpList_index_run rfl 22 (.tmp 7) (.tmp 9) rfl (.slice (some ⟨g, off, none⟩) l.length cap) (.int .i64 (i : Int)) _ rfl rfl (hix.out _) ?_)
          | (refine wpList_load_midg rfl 58 (.tmp 11) rfl g (off + i * 14) rfl X _ hrg.out Try.underlying58 rfl hi4.out ?_)
          | (refine wpList_store_new rfl 58 (.tmp 6) (.tmp 12) rfl wr _ X.toArray rfl rfl rfl hi5.out (hcz.out _ rfl) hone.out ?_; rw [← hW2.out])
          | (refine wpList_load_midg rfl 58 (.tmp 6) rfl wr.heap.size 0 rfl X _ hx.out Try.underlying58 rfl hi4.out ?_))
        refine (hc.out).mono ?_
        rintro e w3 ⟨rfl, hb3⟩
        have hfin := Lib.hid (hbe.out.trans (hb3.mono hbe.out.size))
        clear hb3 hc hx hrg
        go_wp2
        go_ret
        exact ⟨by rw [hrr.out]; rfl, hfin.out⟩
      | true =>
        have hnx1 := Lib.hid (hnx.out hq)
        clear hat1 hnx
        rw [hq] at hc
        clear hq
        go_wp2_with (first
          | (refine wpList_index_run rfl 22 (.tmp 7) (.tmp 9) rfl (.slice (some ⟨g, off, none⟩) l.length cap) (.int .i64 (i : Int)) _ rfl rfl (hix.out _) ?_)
          | (refine wpList_load_midg rfl 58 (.tmp 11) rfl g (off + i * 14) rfl X _ hrg.out Try.underlying58 rfl hi4.out ?_)
          | (refine wpList_store_new rfl 58 (.tmp 6) (.tmp 12) rfl wr _ X.toArray rfl rfl rfl hi5.out (hcz.out _ rfl) hone.out ?_; rw [← hW2.out])
          | (refine wpList_load_midg rfl 58 (.tmp 6) rfl wr.heap.size 0 rfl X _ hx.out Try.underlying58 rfl hi4.out ?_))
        refine (hc.out).mono ?_
        rintro e w3 ⟨rfl, hb3⟩
        have hfin := Lib.hid (hbe.out.trans (hb3.mono hbe.out.size))
        clear hb3 hc hx hrg
        go_wp2_with fail
        exact ⟨⟨i + 1, by omega, by go_num, hnx1.out, hfin.out⟩, by simp [RowKit.intOf]; omega⟩
    · obtain rfl : i = l.length := by omega
      have hr1 := Lib.hid (hno.out (fun j hj => hne j hj hj))
      clear hat hno hne hrow
      go_wp2
      go_ret
      exact ⟨by rw [hr1.out]; rfl, hb⟩
set_option maxRecDepth 100000 in
set_option maxHeartbeats 2000000 in
theorem allTran_any (l : List Tran) (ao : Option Addr) (cap : Nat) (W : World) (h : RowAt Tran.cells 16 W ao l) (hl : l.length ≤ 140737488351232) :
    Calls Try.prog 31 #[.slice ao l.length cap, .func (.func 32) #[] #[]] W fun e W' => e = .returned (.bool (l.all goodT)) ∧ Below W.heap.size W W' := by
  have hat := Lib.hid (fun (i : Nat) (hi : i < l.length) (hq : goodT l[i] = false) => all_bad (f := goodT) hi hq)
  have hno := Lib.hid (all_good (f := goodT) (l := l))
  generalize hr : l.all goodT = r at *
  clear hr
  have hrow := Lib.hid (fun (W' : World) (hb : Below W.heap.size W W') => h.later hb)
  have hb0 := Lib.hid (Below.refl W.heap.size W)
  have eg : ∀ args w, (callFunc 32 args).run Try.prog w = .ok (.enter 32 args) w := enters_of Try.func32 (by kernel_rfl) rfl
  clear h
  go_enter Try.func31, Try.ntmps31
  go_wp2_with fail
  go_loopw [9] (fun iv wr => ∃ i : Nat, i ≤ l.length ∧ iv = .int .i64 i ∧ (∀ j (hj : j < l.length), j < i → goodT l[j] = true) ∧ Below W.heap.size W wr) (fun iv _ => (l.length - RowKit.intOf iv).toNat)
  case atStart => exact ⟨0, by omega, rfl, fun j hj h => by omega, hb0.out⟩
  case round =>
    clear hb0
    obtain ⟨i, hi, rfl, hne, hb⟩ := hrel
    by_cases hlt : i < l.length
    · obtain ⟨g, off, rfl, hg, hrg⟩ := (hrow.out wr hb).at hlt
      have hix := Lib.hid (fun w => run_idx_tranW g off l.length cap i hlt w)
      have hat1 := Lib.hid (hat.out i hlt)
      have hltI : ((i : Nat) : Int) < ((l.length : Nat) : Int) := by omega
      have hi4 := Lib.hid (show (Try.prog.info? 61).map (·.size) = some (Tran.cells l[i]).length by kernel_rfl)
      have hi5 := Lib.hid (show (Try.prog.info? 61).map (·.size) = some (Tran.cells l[i]).toArray.size by kernel_rfl)
      have hone := Lib.hid (all_oneCell_toArray (tranW.one l[i]))
      have hcz : ∀ z : Array Value, z.size = 16 → z.size = (Tran.cells l[i]).toArray.size := fun z h => h
      replace hcz := Lib.hid hcz
      have hnx := Lib.hid (fun (hq : goodT l[i] = true) (j : Nat) (hj : j < l.length) (hji : j < i + 1) => (show goodT l[j] = true from by
        by_cases e : j = i
        · subst e; exact hq
        · exact hne j hj (by omega)))
      clear hne
      obtain ⟨W2, hW2⟩ : ∃ W2, W2 = wr.alloc (.cells (Tran.cells l[i]).toArray 61) := ⟨_, rfl⟩
      have hb2 : Below wr.heap.size wr W2 := by rw [hW2]; exact (Below.refl _ _).alloc (Nat.le_refl _) _
      have hx := Lib.hid (show W2.rangeAt wr.heap.size 0 (Tran.cells l[i]) by rw [hW2]; exact (BoxAt.new wr (Tran.cells l[i]) _).range)
      have hc := xfGood_any l[i] W2
      have hbe := Lib.hid (hb.trans (hb2.mono hb.size))
      replace hrg := Lib.hid hrg
      unfold tranV at hc
      replace hc := Lib.hid hc
      replace hW2 := Lib.hid hW2
      generalize Tran.cells l[i] = X at *
      clear hb hb2 hrow hat hno
      cases hq : goodT l[i] with
      | false =>
        have hrr := Lib.hid (hat1.out hq)
        clear hat1 hnx
        rw [hq] at hc
        clear hq
        go_wp2_with (first
          | (refine wpList_index_run rfl 23 (.tmp 7) (.tmp 9) rfl (.slice (some ⟨g, off, none⟩) l.length cap) (.int .i64 (i : Int)) _ rfl rfl (hix.out _) ?_)
          | (refine wpList_load_midg rfl 61 (.tmp 11) rfl g (off + i * 16) rfl X _ hrg.out Try.underlying61 rfl hi4.out ?_)
          | (refine wpList_store_new rfl 61 (.tmp 6) (.tmp 12) rfl wr _ X.toArray rfl rfl rfl hi5.out (hcz.out _ rfl) hone.out ?_; rw [← hW2.out])
          | (refine wpList_load_midg rfl 61 (.tmp 6) rfl wr.heap.size 0 rfl X _ hx.out Try.underlying61 rfl hi4.out ?_))
        refine (hc.out).mono ?_
        rintro e w3 ⟨rfl, hb3⟩
        have hfin := Lib.hid (hbe.out.trans (hb3.mono hbe.out.size))
        clear hb3 hc hx hrg
        go_wp2
        go_ret
        exact ⟨by rw [hrr.out]; rfl, hfin.out⟩
      | true =>
        have hnx1 := Lib.hid (hnx.out hq)
        clear hat1 hnx
        rw [hq] at hc
        clear hq
        go_wp2_with (first
          | (refine wpList_index_run rfl 23 (.tmp 7) (.tmp 9) rfl (.slice (some ⟨g, off, none⟩) l.length cap) (.int .i64 (i : Int)) _ rfl rfl (hix.out _) ?_)
          | (refine wpList_load_midg rfl 61 (.tmp 11) rfl g (off + i * 16) rfl X _ hrg.out Try.underlying61 rfl hi4.out ?_)
          | (refine wpList_store_new rfl 61 (.tmp 6) (.tmp 12) rfl wr _ X.toArray rfl rfl rfl hi5.out (hcz.out _ rfl) hone.out ?_; rw [← hW2.out])
          | (refine wpList_load_midg rfl 61 (.tmp 6) rfl wr.heap.size 0 rfl X _ hx.out Try.underlying61 rfl hi4.out ?_))
        refine (hc.out).mono ?_
        rintro e w3 ⟨rfl, hb3⟩
        have hfin := Lib.hid (hbe.out.trans (hb3.mono hbe.out.size))
        clear hb3 hc hx hrg
        go_wp2_with fail
        exact ⟨⟨i + 1, by omega, by go_num, hnx1.out, hfin.out⟩, by simp [RowKit.intOf]; omega⟩
    · obtain rfl : i = l.length := by omega
      have hr1 := Lib.hid (hno.out (fun j hj => hne j hj hj))
      clear hat hno hne hrow
      go_wp2
      go_ret
      exact ⟨by rw [hr1.out]; rfl, hb⟩
end Go.Proofs.Ytfdanlfiaoedfaa
