/- Stage 22: the document's bytes of a request. No condition but sizes. -/
import Derived.Test.YtcailaeebheaoaaZWqg
namespace Go.Proofs.Ytcailaeebheaoaa
open Go.RowKit Go.Sort Wm Cr

set_option maxRecDepth 100000 in
set_option maxHeartbeats 4000000 in
theorem refBytes1_any (q : Req) (s : Reqs) (W : World) (h : ReqAt W q s) (hg : goodQ q = true) (ho : q.Op = 1) : Calls Try.prog 15 #[reqV q s] W fun e w2 => e = .returned (.string (reqB q)) ∧ Below W.heap.size W w2 := by
  have hz := Lib.hid (fun (cs : Array Value) (t : TypeId) => (Below.refl W.heap.size W).alloc (Nat.le_refl _) (.cells cs t))
  have hbx := BoxAt.new W (q.cells s) 31
  have hcs := Lib.hid (fun wx b (h : BoxAt wx b (q.cells s)) => h.req)
  have ki := Lib.hid (fun size n W => refint_any size n W)
  have hrow := Lib.hid (fun (W' : World) (hb : Below W.heap.size W W') => h.Accounts.later hb)
  rw [goodQ_1 ho, Bool.and_eq_true] at hg
  have hnl := of_decide_eq_true hg.1
  have hlast : reqB q = intB 1 1 ++ intB 1 ((q.Accounts.length : Nat) : Int) ++ catB accB (q.Accounts.take q.Accounts.length) := by
    unfold reqB
    rw [ho, bodyQ_1 ho, List.take_length]
    unfold listB
    rw [ByteArray.append_assoc]
  rw [hlast]
  have hnext := Lib.hid (fun (i : Nat) (hlt : i < q.Accounts.length) => (show (intB 1 1 ++ intB 1 ((q.Accounts.length : Nat) : Int) ++ catB accB (q.Accounts.take i)) ++ accB q.Accounts[i] = intB 1 1 ++ intB 1 ((q.Accounts.length : Nat) : Int) ++ catB accB (q.Accounts.take (i + 1)) by rw [catB_take _ i hlt, ByteArray.append_assoc]))
  have hfirst : intB 1 1 ++ intB 1 ((q.Accounts.length : Nat) : Int) = intB 1 1 ++ intB 1 ((q.Accounts.length : Nat) : Int) ++ catB accB (q.Accounts.take 0) := by rw [List.take_zero, catB_nil, ByteArray.append_empty]
  have hsz : ∀ i, (intB 1 1 ++ intB 1 ((q.Accounts.length : Nat) : Int) ++ catB accB (q.Accounts.take i)).size ≤ 2000 := fun i => by
    rw [ByteArray.size_append, ByteArray.size_append, intB_size, intB_size, catB_size accB_size, List.length_take, show sizeK 1 = 1 from rfl]
    have : min i q.Accounts.length ≤ 17 := by omega
    omega
  have s1 : (intB 1 1).size = 1 := by rw [intB_size]; rfl
  have s2 : (intB 1 ((q.Accounts.length : Nat) : Int)).size = 1 := by rw [intB_size]; rfl
  clear hlast h
  obtain ⟨op, acs, ts, now, ids, ⟨ac, fr, tt, db, cr, la, li⟩⟩ := q
  obtain ⟨sA, sAc, sT, sTc, sI, sIc⟩ := s
  unfold reqV at *
  dsimp only at *
  subst ho
  obtain ⟨D, hD⟩ : ∃ D : Nat → ByteArray, ∀ i, intB 1 1 ++ intB 1 ((acs.length : Nat) : Int) ++ catB accB (acs.take i) = D i := ⟨_, fun _ => rfl⟩
  rw [hD] at hfirst
  simp only [hD] at hnext hsz ⊢
  clear hD hg
  replace hbx := Lib.hid hbx
  replace hsz := Lib.hid hsz
  go_enter Try.func15, Try.ntmps15
  go_wp2_with fail
  refine (ki.out _ _ _).mono ?_
  rintro e w2 ⟨rfl, hb2⟩
  have hB2 := hbx.out.later hb2
  obtain ⟨z0, z1, z2, z3, z4, z5, z6, z7, z8, z9, z10, z11, z12, zl⟩ := hcs.out _ _ hB2
  try dsimp only at z0 z1 z2 z3 z4 z5 z6 z7 z8 z9 z10 z11 z12 zl
  have hb3 := (hz.out _ _).trans (hb2.mono (hz.out _ _).size)
  clear hb2 hbx
  go_wp2_with fail
  refine (ki.out _ _ _).mono ?_
  rintro e w3 ⟨rfl, hb4⟩
  clear z0 z1 z2 z3 z4 z5 z6 z7 z8 z9 z10 z11 z12 zl
  obtain ⟨z0, z1, z2, z3, z4, z5, z6, z7, z8, z9, z10, z11, z12, zl⟩ := hcs.out _ _ (hB2.later hb4)
  try dsimp only at z0 z1 z2 z3 z4 z5 z6 z7 z8 z9 z10 z11 z12 zl
  have hb0 := Lib.hid (hb3.trans (hb4.mono hb3.size))
  clear hb3 hb4 hB2 hcs ki
  go_wp2_with fail
  clear z0 z1 z2 z3 z4 z5 z6 z7 z8 z9 z10 z11 z12 zl
  try simp only [hfirst]
  clear hfirst s1 s2
  go_loopw [3, 45] (fun sv iv wr => ∃ i : Nat, i ≤ acs.length ∧ iv = .int .i64 i ∧ sv = .string (D i) ∧ Below W.heap.size W wr) (fun _ iv _ => (acs.length - RowKit.intOf iv).toNat)
  case atStart => exact ⟨0, by omega, rfl, rfl, hb0.out⟩
  case round =>
    clear hb0
    obtain ⟨i, hi, rfl, rfl, hb⟩ := hrel
    by_cases hlt : i < acs.length
    · obtain ⟨g, off, hao, hg2, hrg⟩ := (hrow.out wr hb).at hlt
      try dsimp only at hao
      subst hao
      have hix := Lib.hid (fun w => run_idx_acctW g off acs.length sAc i hlt w)
      have hltI : ((i : Nat) : Int) < ((acs.length : Nat) : Int) := by omega
      have hi4 := Lib.hid (show (Try.prog.info? 58).map (·.size) = some (Acct.cells acs[i]).length by kernel_rfl)
      have hi5 := Lib.hid (show (Try.prog.info? 58).map (·.size) = some (Acct.cells acs[i]).toArray.size by kernel_rfl)
      have hone := Lib.hid (all_oneCell_toArray (acctW.one acs[i]))
      have hcz : ∀ z : Array Value, z.size = 14 → z.size = (Acct.cells acs[i]).toArray.size := fun z h => h
      replace hcz := Lib.hid hcz
      obtain ⟨W2, hW2⟩ : ∃ W2, W2 = wr.alloc (.cells (Acct.cells acs[i]).toArray 58) := ⟨_, rfl⟩
      have hb2 : Below wr.heap.size wr W2 := by rw [hW2]; exact (Below.refl _ _).alloc (Nat.le_refl _) _
      have hx := Lib.hid (show W2.rangeAt wr.heap.size 0 (Acct.cells acs[i]) by rw [hW2]; exact (BoxAt.new wr (Acct.cells acs[i]) _).range)
      have hc := refbytes_acct acs[i] W2
      have hbe := Lib.hid (hb.trans (hb2.mono hb.size))
      have hnx := hnext.out i hlt
      have z1 := hsz.out i
      have z2 : (accB acs[i]).size ≤ 200 := by rw [accB_size]; omega
      replace hrg := Lib.hid hrg
      unfold acctV at hc
      replace hc := Lib.hid hc
      replace hW2 := Lib.hid hW2
      generalize accB acs[i] = y at *
      generalize Acct.cells acs[i] = X at *
      generalize hDi : D i = Di at *
      clear hb hb2 hrow hnext hsz
      go_wp2_with (first
        | (refine wpList_index_run rfl 22 (.tmp 43) (.tmp 45) rfl (.slice (some ⟨g, off, none⟩) acs.length sAc) (.int .i64 (i : Int)) _ rfl rfl (hix.out _) ?_)
        | (refine wpList_load_midg rfl 58 (.tmp 47) rfl g (off + i * 14) rfl X _ hrg.out Try.underlying58 rfl hi4.out ?_)
        | (refine wpList_store_new rfl 58 (.tmp 5) (.tmp 48) rfl wr _ X.toArray rfl rfl rfl hi5.out (hcz.out _ rfl) hone.out ?_; rw [← hW2.out])
        | (refine wpList_load_midg rfl 58 (.tmp 5) rfl wr.heap.size 0 rfl X _ hx.out Try.underlying58 rfl hi4.out ?_))
      refine hc.out.mono ?_
      rintro e w5 ⟨rfl, hb5⟩
      have hfin := Lib.hid (hbe.out.trans (hb5.mono hbe.out.size))
      clear hb5 hc hx hrg
      replace hnx := Lib.hid hnx
      have hA : i + 1 ≤ acs.length := by omega
      go_wp2_with fail
      go_roundw
      case measure => (show (((acs.length : Nat) : Int) - (((i : Nat) : Int) + 1)).toNat < (((acs.length : Nat) : Int) - ((i : Nat) : Int)).toNat; omega)
      case rel => exact ⟨i + 1, hA, by go_num, by rw [← hnx.out], hfin.out⟩
    · obtain rfl : i = acs.length := by omega
      replace hb := Lib.hid hb
      go_wp2
      go_ret
      exact ⟨rfl, hb.out⟩
set_option maxRecDepth 100000 in
set_option maxHeartbeats 4000000 in
theorem refBytes2_any (q : Req) (s : Reqs) (W : World) (h : ReqAt W q s) (hg : goodQ q = true) (ho : q.Op = 2) : Calls Try.prog 15 #[reqV q s] W fun e w2 => e = .returned (.string (reqB q)) ∧ Below W.heap.size W w2 := by
  have hz := Lib.hid (fun (cs : Array Value) (t : TypeId) => (Below.refl W.heap.size W).alloc (Nat.le_refl _) (.cells cs t))
  have hbx := BoxAt.new W (q.cells s) 31
  have hcs := Lib.hid (fun wx b (h : BoxAt wx b (q.cells s)) => h.req)
  have ki := Lib.hid (fun size n W => refint_any size n W)
  have hrow := Lib.hid (fun (W' : World) (hb : Below W.heap.size W W') => h.Transfers.later hb)
  rw [goodQ_2 ho, Bool.and_eq_true] at hg
  have hnl := of_decide_eq_true hg.1
  have hlast : reqB q = intB 1 2 ++ intB 1 ((q.Transfers.length : Nat) : Int) ++ catB traB (q.Transfers.take q.Transfers.length) := by
    unfold reqB
    rw [ho, bodyQ_2 ho, List.take_length]
    unfold listB
    rw [ByteArray.append_assoc]
  rw [hlast]
  have hnext := Lib.hid (fun (i : Nat) (hlt : i < q.Transfers.length) => (show (intB 1 2 ++ intB 1 ((q.Transfers.length : Nat) : Int) ++ catB traB (q.Transfers.take i)) ++ traB q.Transfers[i] = intB 1 2 ++ intB 1 ((q.Transfers.length : Nat) : Int) ++ catB traB (q.Transfers.take (i + 1)) by rw [catB_take _ i hlt, ByteArray.append_assoc]))
  have hfirst : intB 1 2 ++ intB 1 ((q.Transfers.length : Nat) : Int) = intB 1 2 ++ intB 1 ((q.Transfers.length : Nat) : Int) ++ catB traB (q.Transfers.take 0) := by rw [List.take_zero, catB_nil, ByteArray.append_empty]
  have hsz : ∀ i, (intB 1 2 ++ intB 1 ((q.Transfers.length : Nat) : Int) ++ catB traB (q.Transfers.take i)).size ≤ 2000 := fun i => by
    rw [ByteArray.size_append, ByteArray.size_append, intB_size, intB_size, catB_size traB_size, List.length_take, show sizeK 1 = 1 from rfl]
    have : min i q.Transfers.length ≤ 17 := by omega
    omega
  have s1 : (intB 1 2).size = 1 := by rw [intB_size]; rfl
  have s2 : (intB 1 ((q.Transfers.length : Nat) : Int)).size = 1 := by rw [intB_size]; rfl
  clear hlast h
  obtain ⟨op, acs, ts, now, ids, ⟨ac, fr, tt, db, cr, la, li⟩⟩ := q
  obtain ⟨sA, sAc, sT, sTc, sI, sIc⟩ := s
  unfold reqV at *
  dsimp only at *
  subst ho
  obtain ⟨D, hD⟩ : ∃ D : Nat → ByteArray, ∀ i, intB 1 2 ++ intB 1 ((ts.length : Nat) : Int) ++ catB traB (ts.take i) = D i := ⟨_, fun _ => rfl⟩
  rw [hD] at hfirst
  simp only [hD] at hnext hsz ⊢
  clear hD hg
  replace hbx := Lib.hid hbx
  replace hsz := Lib.hid hsz
  go_enter Try.func15, Try.ntmps15
  go_wp2_with fail
  refine (ki.out _ _ _).mono ?_
  rintro e w2 ⟨rfl, hb2⟩
  have hB2 := hbx.out.later hb2
  obtain ⟨z0, z1, z2, z3, z4, z5, z6, z7, z8, z9, z10, z11, z12, zl⟩ := hcs.out _ _ hB2
  try dsimp only at z0 z1 z2 z3 z4 z5 z6 z7 z8 z9 z10 z11 z12 zl
  have hb3 := (hz.out _ _).trans (hb2.mono (hz.out _ _).size)
  clear hb2 hbx
  go_wp2_with fail
  refine (ki.out _ _ _).mono ?_
  rintro e w3 ⟨rfl, hb4⟩
  clear z0 z1 z2 z3 z4 z5 z6 z7 z8 z9 z10 z11 z12 zl
  obtain ⟨z0, z1, z2, z3, z4, z5, z6, z7, z8, z9, z10, z11, z12, zl⟩ := hcs.out _ _ (hB2.later hb4)
  try dsimp only at z0 z1 z2 z3 z4 z5 z6 z7 z8 z9 z10 z11 z12 zl
  have hb0 := Lib.hid (hb3.trans (hb4.mono hb3.size))
  clear hb3 hb4 hB2 hcs ki
  go_wp2_with fail
  clear z0 z1 z2 z3 z4 z5 z6 z7 z8 z9 z10 z11 z12 zl
  try simp only [hfirst]
  clear hfirst s1 s2
  go_loopw [3, 65] (fun sv iv wr => ∃ i : Nat, i ≤ ts.length ∧ iv = .int .i64 i ∧ sv = .string (D i) ∧ Below W.heap.size W wr) (fun _ iv _ => (ts.length - RowKit.intOf iv).toNat)
  case atStart => exact ⟨0, by omega, rfl, rfl, hb0.out⟩
  case round =>
    clear hb0
    obtain ⟨i, hi, rfl, rfl, hb⟩ := hrel
    by_cases hlt : i < ts.length
    · obtain ⟨g, off, hao, hg2, hrg⟩ := (hrow.out wr hb).at hlt
      try dsimp only at hao
      subst hao
      have hix := Lib.hid (fun w => run_idx_tranW g off ts.length sTc i hlt w)
      have hltI : ((i : Nat) : Int) < ((ts.length : Nat) : Int) := by omega
      have hi4 := Lib.hid (show (Try.prog.info? 61).map (·.size) = some (Tran.cells ts[i]).length by kernel_rfl)
      have hi5 := Lib.hid (show (Try.prog.info? 61).map (·.size) = some (Tran.cells ts[i]).toArray.size by kernel_rfl)
      have hone := Lib.hid (all_oneCell_toArray (tranW.one ts[i]))
      have hcz : ∀ z : Array Value, z.size = 16 → z.size = (Tran.cells ts[i]).toArray.size := fun z h => h
      replace hcz := Lib.hid hcz
      obtain ⟨W2, hW2⟩ : ∃ W2, W2 = wr.alloc (.cells (Tran.cells ts[i]).toArray 61) := ⟨_, rfl⟩
      have hb2 : Below wr.heap.size wr W2 := by rw [hW2]; exact (Below.refl _ _).alloc (Nat.le_refl _) _
      have hx := Lib.hid (show W2.rangeAt wr.heap.size 0 (Tran.cells ts[i]) by rw [hW2]; exact (BoxAt.new wr (Tran.cells ts[i]) _).range)
      have hc := refbytes_tran ts[i] W2
      have hbe := Lib.hid (hb.trans (hb2.mono hb.size))
      have hnx := hnext.out i hlt
      have z1 := hsz.out i
      have z2 : (traB ts[i]).size ≤ 200 := by rw [traB_size]; omega
      replace hrg := Lib.hid hrg
      unfold tranV at hc
      replace hc := Lib.hid hc
      replace hW2 := Lib.hid hW2
      generalize traB ts[i] = y at *
      generalize Tran.cells ts[i] = X at *
      generalize hDi : D i = Di at *
      clear hb hb2 hrow hnext hsz
      go_wp2_with (first
        | (refine wpList_index_run rfl 23 (.tmp 63) (.tmp 65) rfl (.slice (some ⟨g, off, none⟩) ts.length sTc) (.int .i64 (i : Int)) _ rfl rfl (hix.out _) ?_)
        | (refine wpList_load_midg rfl 61 (.tmp 67) rfl g (off + i * 16) rfl X _ hrg.out Try.underlying61 rfl hi4.out ?_)
        | (refine wpList_store_new rfl 61 (.tmp 7) (.tmp 68) rfl wr _ X.toArray rfl rfl rfl hi5.out (hcz.out _ rfl) hone.out ?_; rw [← hW2.out])
        | (refine wpList_load_midg rfl 61 (.tmp 7) rfl wr.heap.size 0 rfl X _ hx.out Try.underlying61 rfl hi4.out ?_))
      refine hc.out.mono ?_
      rintro e w5 ⟨rfl, hb5⟩
      have hfin := Lib.hid (hbe.out.trans (hb5.mono hbe.out.size))
      clear hb5 hc hx hrg
      replace hnx := Lib.hid hnx
      have hA : i + 1 ≤ ts.length := by omega
      go_wp2_with fail
      go_roundw
      case measure => (show (((ts.length : Nat) : Int) - (((i : Nat) : Int) + 1)).toNat < (((ts.length : Nat) : Int) - ((i : Nat) : Int)).toNat; omega)
      case rel => exact ⟨i + 1, hA, by go_num, by rw [← hnx.out], hfin.out⟩
    · obtain rfl : i = ts.length := by omega
      replace hb := Lib.hid hb
      go_wp2
      go_ret
      exact ⟨rfl, hb.out⟩
theorem refbytes_idn (x : Idn) (w : World) : Calls Try.prog 40 #[.agg x.cells.toArray] w fun e w' => e = .returned (.string (idB x)) ∧ Below w.heap.size w w' := refbytesN_any x.N w
theorem idB_size' (x : Idn) : (idB x).size = 16 := numB_size x.N
set_option maxRecDepth 100000 in
set_option maxHeartbeats 4000000 in
theorem refBytes4_any (q : Req) (s : Reqs) (W : World) (h : ReqAt W q s) (hg : goodQ q = true) (ho : q.Op = 4) : Calls Try.prog 15 #[reqV q s] W fun e w2 => e = .returned (.string (reqB q)) ∧ Below W.heap.size W w2 := by
  have hz := Lib.hid (fun (cs : Array Value) (t : TypeId) => (Below.refl W.heap.size W).alloc (Nat.le_refl _) (.cells cs t))
  have hbx := BoxAt.new W (q.cells s) 31
  have hcs := Lib.hid (fun wx b (h : BoxAt wx b (q.cells s)) => h.req)
  have ki := Lib.hid (fun size n W => refint_any size n W)
  have hrow := Lib.hid (fun (W' : World) (hb : Below W.heap.size W W') => h.Ids.later hb)
  rw [goodQ_4 ho] at hg
  have hnl := of_decide_eq_true hg
  have hlast : reqB q = intB 1 4 ++ intB 1 ((q.Ids.length : Nat) : Int) ++ catB idB (q.Ids.take q.Ids.length) := by
    unfold reqB
    rw [ho, bodyQ_x (by omega) (by omega) (by omega) (by omega), List.take_length]
    unfold listB
    rw [ByteArray.append_assoc]
  rw [hlast]
  have hnext := Lib.hid (fun (i : Nat) (hlt : i < q.Ids.length) => (show (intB 1 4 ++ intB 1 ((q.Ids.length : Nat) : Int) ++ catB idB (q.Ids.take i)) ++ idB q.Ids[i] = intB 1 4 ++ intB 1 ((q.Ids.length : Nat) : Int) ++ catB idB (q.Ids.take (i + 1)) by rw [catB_take _ i hlt, ByteArray.append_assoc]))
  have hfirst : intB 1 4 ++ intB 1 ((q.Ids.length : Nat) : Int) = intB 1 4 ++ intB 1 ((q.Ids.length : Nat) : Int) ++ catB idB (q.Ids.take 0) := by rw [List.take_zero, catB_nil, ByteArray.append_empty]
  have hsz : ∀ i, (intB 1 4 ++ intB 1 ((q.Ids.length : Nat) : Int) ++ catB idB (q.Ids.take i)).size ≤ 2000 := fun i => by
    rw [ByteArray.size_append, ByteArray.size_append, intB_size, intB_size, catB_size idB_size', List.length_take, show sizeK 1 = 1 from rfl]
    have : min i q.Ids.length ≤ 17 := by omega
    omega
  have s1 : (intB 1 4).size = 1 := by rw [intB_size]; rfl
  have s2 : (intB 1 ((q.Ids.length : Nat) : Int)).size = 1 := by rw [intB_size]; rfl
  clear hlast h
  obtain ⟨op, acs, ts, now, ids, ⟨ac, fr, tt, db, cr, la, li⟩⟩ := q
  obtain ⟨sA, sAc, sT, sTc, sI, sIc⟩ := s
  unfold reqV at *
  dsimp only at *
  subst ho
  obtain ⟨D, hD⟩ : ∃ D : Nat → ByteArray, ∀ i, intB 1 4 ++ intB 1 ((ids.length : Nat) : Int) ++ catB idB (ids.take i) = D i := ⟨_, fun _ => rfl⟩
  rw [hD] at hfirst
  simp only [hD] at hnext hsz ⊢
  clear hD hg
  replace hbx := Lib.hid hbx
  replace hsz := Lib.hid hsz
  go_enter Try.func15, Try.ntmps15
  go_wp2_with fail
  refine (ki.out _ _ _).mono ?_
  rintro e w2 ⟨rfl, hb2⟩
  have hB2 := hbx.out.later hb2
  obtain ⟨z0, z1, z2, z3, z4, z5, z6, z7, z8, z9, z10, z11, z12, zl⟩ := hcs.out _ _ hB2
  try dsimp only at z0 z1 z2 z3 z4 z5 z6 z7 z8 z9 z10 z11 z12 zl
  have hb3 := (hz.out _ _).trans (hb2.mono (hz.out _ _).size)
  clear hb2 hbx
  go_wp2_with fail
  refine (ki.out _ _ _).mono ?_
  rintro e w3 ⟨rfl, hb4⟩
  clear z0 z1 z2 z3 z4 z5 z6 z7 z8 z9 z10 z11 z12 zl
  obtain ⟨z0, z1, z2, z3, z4, z5, z6, z7, z8, z9, z10, z11, z12, zl⟩ := hcs.out _ _ (hB2.later hb4)
  try dsimp only at z0 z1 z2 z3 z4 z5 z6 z7 z8 z9 z10 z11 z12 zl
  have hb0 := Lib.hid (hb3.trans (hb4.mono hb3.size))
  clear hb3 hb4 hB2 hcs ki
  go_wp2_with fail
  clear z0 z1 z2 z3 z4 z5 z6 z7 z8 z9 z10 z11 z12 zl
  try simp only [hfirst]
  clear hfirst s1 s2
  go_loopw [3, 25] (fun sv iv wr => ∃ i : Nat, i ≤ ids.length ∧ iv = .int .i64 i ∧ sv = .string (D i) ∧ Below W.heap.size W wr) (fun _ iv _ => (ids.length - RowKit.intOf iv).toNat)
  case atStart => exact ⟨0, by omega, rfl, rfl, hb0.out⟩
  case round =>
    clear hb0
    obtain ⟨i, hi, rfl, rfl, hb⟩ := hrel
    by_cases hlt : i < ids.length
    · obtain ⟨g, off, hao, hg2, hrg⟩ := (hrow.out wr hb).at hlt
      try dsimp only at hao
      subst hao
      have hix := Lib.hid (fun w => run_idx_idnW g off ids.length sIc i hlt w)
      have hltI : ((i : Nat) : Int) < ((ids.length : Nat) : Int) := by omega
      have hi4 := Lib.hid (show (Try.prog.info? 27).map (·.size) = some (Idn.cells ids[i]).length by kernel_rfl)
      have hi5 := Lib.hid (show (Try.prog.info? 27).map (·.size) = some (Idn.cells ids[i]).toArray.size by kernel_rfl)
      have hone := Lib.hid (all_oneCell_toArray (idnW.one ids[i]))
      have hcz : ∀ z : Array Value, z.size = 2 → z.size = (Idn.cells ids[i]).toArray.size := fun z h => h
      replace hcz := Lib.hid hcz
      obtain ⟨W2, hW2⟩ : ∃ W2, W2 = wr.alloc (.cells (Idn.cells ids[i]).toArray 27) := ⟨_, rfl⟩
      have hb2 : Below wr.heap.size wr W2 := by rw [hW2]; exact (Below.refl _ _).alloc (Nat.le_refl _) _
      have hx := Lib.hid (show W2.rangeAt wr.heap.size 0 (Idn.cells ids[i]) by rw [hW2]; exact (BoxAt.new wr (Idn.cells ids[i]) _).range)
      have hc := refbytes_idn ids[i] W2
      have hbe := Lib.hid (hb.trans (hb2.mono hb.size))
      have hnx := hnext.out i hlt
      have z1 := hsz.out i
      have z2 : (idB ids[i]).size ≤ 200 := by rw [idB_size']; omega
      replace hrg := Lib.hid hrg
      skip
      replace hc := Lib.hid hc
      replace hW2 := Lib.hid hW2
      generalize idB ids[i] = y at *
      generalize Idn.cells ids[i] = X at *
      generalize hDi : D i = Di at *
      clear hb hb2 hrow hnext hsz
      go_wp2_with (first
        | (refine wpList_index_run rfl 24 (.tmp 23) (.tmp 25) rfl (.slice (some ⟨g, off, none⟩) ids.length sIc) (.int .i64 (i : Int)) _ rfl rfl (hix.out _) ?_)
        | (refine wpList_load_midg rfl 27 (.tmp 27) rfl g (off + i * 2) rfl X _ hrg.out Try.underlying27 rfl hi4.out ?_)
        | (refine wpList_store_new rfl 27 (.tmp 10) (.tmp 28) rfl wr _ X.toArray rfl rfl rfl hi5.out (hcz.out _ rfl) hone.out ?_; rw [← hW2.out])
        | (refine wpList_load_midg rfl 27 (.tmp 10) rfl wr.heap.size 0 rfl X _ hx.out Try.underlying27 rfl hi4.out ?_))
      refine hc.out.mono ?_
      rintro e w5 ⟨rfl, hb5⟩
      have hfin := Lib.hid (hbe.out.trans (hb5.mono hbe.out.size))
      clear hb5 hc hx hrg
      replace hnx := Lib.hid hnx
      have hA : i + 1 ≤ ids.length := by omega
      go_wp2_with fail
      go_roundw
      case measure => (show (((ids.length : Nat) : Int) - (((i : Nat) : Int) + 1)).toNat < (((ids.length : Nat) : Int) - ((i : Nat) : Int)).toNat; omega)
      case rel => exact ⟨i + 1, hA, by go_num, by rw [← hnx.out], hfin.out⟩
    · obtain rfl : i = ids.length := by omega
      replace hb := Lib.hid hb
      go_wp2
      go_ret
      exact ⟨rfl, hb.out⟩
set_option maxRecDepth 100000 in
set_option maxHeartbeats 4000000 in
theorem refBytes5_any (q : Req) (s : Reqs) (W : World) (h : ReqAt W q s) (hg : goodQ q = true) (ho : q.Op = 5) : Calls Try.prog 15 #[reqV q s] W fun e w2 => e = .returned (.string (reqB q)) ∧ Below W.heap.size W w2 := by
  have hz := Lib.hid (fun (cs : Array Value) (t : TypeId) => (Below.refl W.heap.size W).alloc (Nat.le_refl _) (.cells cs t))
  have hbx := BoxAt.new W (q.cells s) 31
  have hcs := Lib.hid (fun wx b (h : BoxAt wx b (q.cells s)) => h.req)
  have ki := Lib.hid (fun size n W => refint_any size n W)
  have hrow := Lib.hid (fun (W' : World) (hb : Below W.heap.size W W') => h.Ids.later hb)
  rw [goodQ_5 ho] at hg
  have hnl := of_decide_eq_true hg
  have hlast : reqB q = intB 1 5 ++ intB 1 ((q.Ids.length : Nat) : Int) ++ catB idB (q.Ids.take q.Ids.length) := by
    unfold reqB
    rw [ho, bodyQ_x (by omega) (by omega) (by omega) (by omega), List.take_length]
    unfold listB
    rw [ByteArray.append_assoc]
  rw [hlast]
  have hnext := Lib.hid (fun (i : Nat) (hlt : i < q.Ids.length) => (show (intB 1 5 ++ intB 1 ((q.Ids.length : Nat) : Int) ++ catB idB (q.Ids.take i)) ++ idB q.Ids[i] = intB 1 5 ++ intB 1 ((q.Ids.length : Nat) : Int) ++ catB idB (q.Ids.take (i + 1)) by rw [catB_take _ i hlt, ByteArray.append_assoc]))
  have hfirst : intB 1 5 ++ intB 1 ((q.Ids.length : Nat) : Int) = intB 1 5 ++ intB 1 ((q.Ids.length : Nat) : Int) ++ catB idB (q.Ids.take 0) := by rw [List.take_zero, catB_nil, ByteArray.append_empty]
  have hsz : ∀ i, (intB 1 5 ++ intB 1 ((q.Ids.length : Nat) : Int) ++ catB idB (q.Ids.take i)).size ≤ 2000 := fun i => by
    rw [ByteArray.size_append, ByteArray.size_append, intB_size, intB_size, catB_size idB_size', List.length_take, show sizeK 1 = 1 from rfl]
    have : min i q.Ids.length ≤ 17 := by omega
    omega
  have s1 : (intB 1 5).size = 1 := by rw [intB_size]; rfl
  have s2 : (intB 1 ((q.Ids.length : Nat) : Int)).size = 1 := by rw [intB_size]; rfl
  clear hlast h
  obtain ⟨op, acs, ts, now, ids, ⟨ac, fr, tt, db, cr, la, li⟩⟩ := q
  obtain ⟨sA, sAc, sT, sTc, sI, sIc⟩ := s
  unfold reqV at *
  dsimp only at *
  subst ho
  obtain ⟨D, hD⟩ : ∃ D : Nat → ByteArray, ∀ i, intB 1 5 ++ intB 1 ((ids.length : Nat) : Int) ++ catB idB (ids.take i) = D i := ⟨_, fun _ => rfl⟩
  rw [hD] at hfirst
  simp only [hD] at hnext hsz ⊢
  clear hD hg
  replace hbx := Lib.hid hbx
  replace hsz := Lib.hid hsz
  go_enter Try.func15, Try.ntmps15
  go_wp2_with fail
  refine (ki.out _ _ _).mono ?_
  rintro e w2 ⟨rfl, hb2⟩
  have hB2 := hbx.out.later hb2
  obtain ⟨z0, z1, z2, z3, z4, z5, z6, z7, z8, z9, z10, z11, z12, zl⟩ := hcs.out _ _ hB2
  try dsimp only at z0 z1 z2 z3 z4 z5 z6 z7 z8 z9 z10 z11 z12 zl
  have hb3 := (hz.out _ _).trans (hb2.mono (hz.out _ _).size)
  clear hb2 hbx
  go_wp2_with fail
  refine (ki.out _ _ _).mono ?_
  rintro e w3 ⟨rfl, hb4⟩
  clear z0 z1 z2 z3 z4 z5 z6 z7 z8 z9 z10 z11 z12 zl
  obtain ⟨z0, z1, z2, z3, z4, z5, z6, z7, z8, z9, z10, z11, z12, zl⟩ := hcs.out _ _ (hB2.later hb4)
  try dsimp only at z0 z1 z2 z3 z4 z5 z6 z7 z8 z9 z10 z11 z12 zl
  have hb0 := Lib.hid (hb3.trans (hb4.mono hb3.size))
  clear hb3 hb4 hB2 hcs ki
  go_wp2_with fail
  clear z0 z1 z2 z3 z4 z5 z6 z7 z8 z9 z10 z11 z12 zl
  try simp only [hfirst]
  clear hfirst s1 s2
  go_loopw [3, 25] (fun sv iv wr => ∃ i : Nat, i ≤ ids.length ∧ iv = .int .i64 i ∧ sv = .string (D i) ∧ Below W.heap.size W wr) (fun _ iv _ => (ids.length - RowKit.intOf iv).toNat)
  case atStart => exact ⟨0, by omega, rfl, rfl, hb0.out⟩
  case round =>
    clear hb0
    obtain ⟨i, hi, rfl, rfl, hb⟩ := hrel
    by_cases hlt : i < ids.length
    · obtain ⟨g, off, hao, hg2, hrg⟩ := (hrow.out wr hb).at hlt
      try dsimp only at hao
      subst hao
      have hix := Lib.hid (fun w => run_idx_idnW g off ids.length sIc i hlt w)
      have hltI : ((i : Nat) : Int) < ((ids.length : Nat) : Int) := by omega
      have hi4 := Lib.hid (show (Try.prog.info? 27).map (·.size) = some (Idn.cells ids[i]).length by kernel_rfl)
      have hi5 := Lib.hid (show (Try.prog.info? 27).map (·.size) = some (Idn.cells ids[i]).toArray.size by kernel_rfl)
      have hone := Lib.hid (all_oneCell_toArray (idnW.one ids[i]))
      have hcz : ∀ z : Array Value, z.size = 2 → z.size = (Idn.cells ids[i]).toArray.size := fun z h => h
      replace hcz := Lib.hid hcz
      obtain ⟨W2, hW2⟩ : ∃ W2, W2 = wr.alloc (.cells (Idn.cells ids[i]).toArray 27) := ⟨_, rfl⟩
      have hb2 : Below wr.heap.size wr W2 := by rw [hW2]; exact (Below.refl _ _).alloc (Nat.le_refl _) _
      have hx := Lib.hid (show W2.rangeAt wr.heap.size 0 (Idn.cells ids[i]) by rw [hW2]; exact (BoxAt.new wr (Idn.cells ids[i]) _).range)
      have hc := refbytes_idn ids[i] W2
      have hbe := Lib.hid (hb.trans (hb2.mono hb.size))
      have hnx := hnext.out i hlt
      have z1 := hsz.out i
      have z2 : (idB ids[i]).size ≤ 200 := by rw [idB_size']; omega
      replace hrg := Lib.hid hrg
      skip
      replace hc := Lib.hid hc
      replace hW2 := Lib.hid hW2
      generalize idB ids[i] = y at *
      generalize Idn.cells ids[i] = X at *
      generalize hDi : D i = Di at *
      clear hb hb2 hrow hnext hsz
      go_wp2_with (first
        | (refine wpList_index_run rfl 24 (.tmp 23) (.tmp 25) rfl (.slice (some ⟨g, off, none⟩) ids.length sIc) (.int .i64 (i : Int)) _ rfl rfl (hix.out _) ?_)
        | (refine wpList_load_midg rfl 27 (.tmp 27) rfl g (off + i * 2) rfl X _ hrg.out Try.underlying27 rfl hi4.out ?_)
        | (refine wpList_store_new rfl 27 (.tmp 10) (.tmp 28) rfl wr _ X.toArray rfl rfl rfl hi5.out (hcz.out _ rfl) hone.out ?_; rw [← hW2.out])
        | (refine wpList_load_midg rfl 27 (.tmp 10) rfl wr.heap.size 0 rfl X _ hx.out Try.underlying27 rfl hi4.out ?_))
      refine hc.out.mono ?_
      rintro e w5 ⟨rfl, hb5⟩
      have hfin := Lib.hid (hbe.out.trans (hb5.mono hbe.out.size))
      clear hb5 hc hx hrg
      replace hnx := Lib.hid hnx
      have hA : i + 1 ≤ ids.length := by omega
      go_wp2_with fail
      go_roundw
      case measure => (show (((ids.length : Nat) : Int) - (((i : Nat) : Int) + 1)).toNat < (((ids.length : Nat) : Int) - ((i : Nat) : Int)).toNat; omega)
      case rel => exact ⟨i + 1, hA, by go_num, by rw [← hnx.out], hfin.out⟩
    · obtain rfl : i = ids.length := by omega
      replace hb := Lib.hid hb
      go_wp2
      go_ret
      exact ⟨rfl, hb.out⟩
end Go.Proofs.Ytcailaeebheaoaa
