/- Stage 22: the document's bytes of a reply. No condition but sizes. -/
import Derived.Test.YtfdanlfiaoedfaaZWqe
import Derived.Test.YtfdanlfiaoedfaaZWrb
import Derived.Test.YtfdanlfiaoedfaaZWre
namespace Go.Proofs.Ytfdanlfiaoedfaa
open Go.RowKit Go.Sort Wm Cr

theorem longP_bytes : partsB longP = ⟨#[3, 0, 0, 0]⟩ := by decide +kernel
set_option maxRecDepth 100000 in
set_option maxHeartbeats 8000000 in
theorem refReply_no (er : Int) (rs : List Resu) (acs : List Acct) (ts : List Tran) (oR oA oT : Option Addr) (cR cA cT : Nat) (W : World) (hbad : fitsP ⟨er, rs, acs, ts⟩ = false) (hR : RowAt Resu.cells 1 W oR rs) (hA : RowAt Acct.cells 14 W oA acs) (hT : RowAt Tran.cells 16 W oT ts) :
    Calls Try.prog 17 #[.int .i64 er, .slice oR rs.length cR, .slice oA acs.length cA, .slice oT ts.length cT] W fun e W' => e = .returned (.string (partsB longP)) ∧ Below W.heap.size W W' := by
  have kf := Lib.hid (refFits_any er rs acs ts oR oA oT cR cA cT W hR hA hT)
  rw [hbad] at kf
  rw [longP_bytes]
  clear hR hA hT hbad
  go_enter Try.func17, Try.ntmps17
  go_wp2_with fail
  refine kf.out.mono ?_
  rintro e w2 ⟨rfl, hb2⟩
  replace hb2 := Lib.hid hb2
  clear kf
  go_wp2
  go_ret
  exact ⟨rfl, hb2.out⟩
set_option maxRecDepth 100000 in
set_option maxHeartbeats 8000000 in
theorem refReply_yes (er : Int) (rs : List Resu) (acs : List Acct) (ts : List Tran) (oR oA oT : Option Addr) (cR cA cT : Nat) (W : World) (hgood : fitsP ⟨er, rs, acs, ts⟩ = true) (hR : RowAt Resu.cells 1 W oR rs) (hA : RowAt Acct.cells 14 W oA acs) (hT : RowAt Tran.cells 16 W oT ts) :
    Calls Try.prog 17 #[.int .i64 er, .slice oR rs.length cR, .slice oA acs.length cA, .slice oT ts.length cT] W fun e W' => e = .returned (.string (partsB ⟨er, rs, acs, ts⟩)) ∧ Below W.heap.size W W' := by
  have kf := Lib.hid (refFits_any er rs acs ts oR oA oT cR cA cT W hR hA hT)
  rw [hgood] at kf
  have ki := Lib.hid (fun size n W => refint_any size n W)
  have hF := (fitsP_iff _).1 hgood
  have fr : rs.length ≤ 16 := hF.r
  have fa : acs.length ≤ 16 := hF.a
  have ft : ts.length ≤ 16 := hF.t
  replace hR := Lib.hid (fun (W' : World) (hb : Below W.heap.size W W') => hR.later hb)
  replace hA := Lib.hid (fun (W' : World) (hb : Below W.heap.size W W') => hA.later hb)
  replace hT := Lib.hid (fun (W' : World) (hb : Below W.heap.size W W') => hT.later hb)
  have s0 : (intB 1 er).size = 1 := by rw [intB_size]; rfl
  have s1 : ∀ n : Nat, (intB 1 ((n : Nat) : Int)).size = 1 := fun n => by rw [intB_size]; rfl
  obtain ⟨D1, hD1⟩ : ∃ D1 : Nat → ByteArray, ∀ i, intB 1 er ++ intB 1 ((rs.length : Nat) : Int) ++ catB resB (rs.take i) = D1 i := ⟨_, fun _ => rfl⟩
  obtain ⟨D2, hD2⟩ : ∃ D2 : Nat → ByteArray, ∀ i, D1 rs.length ++ intB 1 ((acs.length : Nat) : Int) ++ catB accB (acs.take i) = D2 i := ⟨_, fun _ => rfl⟩
  obtain ⟨D3, hD3⟩ : ∃ D3 : Nat → ByteArray, ∀ i, D2 acs.length ++ intB 1 ((ts.length : Nat) : Int) ++ catB traB (ts.take i) = D3 i := ⟨_, fun _ => rfl⟩
  have hlast : partsB ⟨er, rs, acs, ts⟩ = D3 ts.length := by
    rw [← hD3, ← hD2, ← hD1]
    unfold partsB listB
    simp only [List.take_length, ByteArray.append_assoc]
  rw [hlast]
  have f1 : intB 1 er ++ intB 1 ((rs.length : Nat) : Int) = D1 0 := by rw [← hD1, List.take_zero, catB_nil, ByteArray.append_empty]
  have f2 : D1 rs.length ++ intB 1 ((acs.length : Nat) : Int) = D2 0 := by rw [← hD2, List.take_zero, catB_nil, ByteArray.append_empty]
  have f3 : D2 acs.length ++ intB 1 ((ts.length : Nat) : Int) = D3 0 := by rw [← hD3, List.take_zero, catB_nil, ByteArray.append_empty]
  have n1 := Lib.hid (fun (i : Nat) (hlt : i < rs.length) => (show D1 i ++ resB rs[i] = D1 (i + 1) by rw [← hD1, ← hD1, catB_take _ i hlt, ByteArray.append_assoc]))
  have n2 := Lib.hid (fun (i : Nat) (hlt : i < acs.length) => (show D2 i ++ accB acs[i] = D2 (i + 1) by rw [← hD2, ← hD2, catB_take _ i hlt, ByteArray.append_assoc]))
  have n3 := Lib.hid (fun (i : Nat) (hlt : i < ts.length) => (show D3 i ++ traB ts[i] = D3 (i + 1) by rw [← hD3, ← hD3, catB_take _ i hlt, ByteArray.append_assoc]))
  have z1 : ∀ i, (D1 i).size ≤ 100 := fun i => by
    rw [← hD1, ByteArray.size_append, ByteArray.size_append, s0, s1, catB_size resB_size, List.length_take]
    have : min i rs.length ≤ 16 := by omega
    omega
  have z2 : ∀ i, (D2 i).size ≤ 2000 := fun i => by
    have := z1 rs.length
    rw [← hD2, ByteArray.size_append, ByteArray.size_append, s1, catB_size accB_size, List.length_take]
    have : min i acs.length ≤ 16 := by omega
    omega
  have z3 : ∀ i, (D3 i).size ≤ 5000 := fun i => by
    have := z2 acs.length
    rw [← hD3, ByteArray.size_append, ByteArray.size_append, s1, catB_size traB_size, List.length_take]
    have : min i ts.length ≤ 16 := by omega
    omega
  have q1 := s1 rs.length
  have q2 := s1 acs.length
  have q3 := s1 ts.length
  have y1 := z1 rs.length
  have y2 := z2 acs.length
  clear hlast hD1 hD2 hD3 hF hgood s1
  replace z1 := Lib.hid z1
  replace z2 := Lib.hid z2
  replace z3 := Lib.hid z3
  replace f2 := Lib.hid f2
  replace f3 := Lib.hid f3
  go_enter Try.func17, Try.ntmps17
  go_wp2_with fail
  refine kf.out.mono ?_
  rintro e w2 ⟨rfl, hb2⟩
  clear kf
  go_wp2_with fail
  refine (ki.out _ _ _).mono ?_
  rintro e w3 ⟨rfl, hb3⟩
  have hb3' := hb2.trans (hb3.mono hb2.size)
  clear hb2 hb3
  go_wp2_with fail
  refine (ki.out _ _ _).mono ?_
  rintro e w4 ⟨rfl, hb4⟩
  have hb0 := Lib.hid (hb3'.trans (hb4.mono hb3'.size))
  clear hb3' hb4
  go_wp2_with fail
  try simp only [f1]
  clear f1 s0 q1
  go_loopw [9, 30] (fun sv iv wr => ∃ i : Nat, i ≤ rs.length ∧ iv = .int .i64 i ∧ sv = .string (D1 i) ∧ Below W.heap.size W wr) (fun _ iv _ => (rs.length - RowKit.intOf iv).toNat)
  case atStart => exact ⟨0, by omega, rfl, rfl, hb0.out⟩
  case round =>
    clear hb0
    obtain ⟨i, hi, rfl, rfl, hb⟩ := hrel
    by_cases hlt : i < rs.length
    · obtain ⟨g, off, rfl, hg, hrg⟩ := (hR.out wr hb).at hlt
      have hix := Lib.hid (fun w => run_idx_int1 g off rs.length cR i hlt w)
      have hcell := resu_cell hrg
      clear hrg
      have hltI : ((i : Nat) : Int) < ((rs.length : Nat) : Int) := by omega
      have hnx := n1.out i hlt
      have hrb : resB rs[i] = intB 1 rs[i].N := rfl
      rw [hrb] at hnx
      have u1 := z1.out i
      have u2 : (intB 1 rs[i].N).size = 1 := by rw [intB_size]; rfl
      have kc := Lib.hid (ki.out 1 rs[i].N wr)
      generalize rs[i].N = x at *
      generalize intB 1 x = y at *
      generalize hDi : D1 i = Di at *
      replace hb := Lib.hid hb
      go_wp2_with (refine wpList_index_run rfl 46 (.tmp 28) (.tmp 30) rfl (.slice (some ⟨g, off, none⟩) rs.length cR) (.int .i64 (i : Int)) _ rfl rfl (hix.out _) ?_)
      refine kc.out.mono ?_
      rintro e w5 ⟨rfl, hb5⟩
      have hfin := Lib.hid (hb.out.trans (hb5.mono hb.out.size))
      clear hb5 hb kc
      replace hnx := Lib.hid hnx
      have hA1 : i + 1 ≤ rs.length := by omega
      go_wp2_with fail
      go_roundw
      case measure => (show (((rs.length : Nat) : Int) - (((i : Nat) : Int) + 1)).toNat < (((rs.length : Nat) : Int) - ((i : Nat) : Int)).toNat; omega)
      case rel => exact ⟨i + 1, hA1, by go_num, by rw [← hnx.out], hfin.out⟩
    · obtain rfl : i = rs.length := by omega
      clear hR n1
      generalize hDe : D1 rs.length = De at *
      go_wp2_with fail
      refine (ki.out _ _ _).mono ?_
      rintro e w6 ⟨rfl, hb6⟩
      have hb0 := Lib.hid (hb.trans (hb6.mono hb.size))
      clear hb hb6
      have hf := f2.out
      go_wp2_with fail
      try simp only [hf]
      clear hf f2
      go_loopw [9, 46] (fun sv iv wr => ∃ i : Nat, i ≤ acs.length ∧ iv = .int .i64 i ∧ sv = .string (D2 i) ∧ Below W.heap.size W wr) (fun _ iv _ => (acs.length - RowKit.intOf iv).toNat)
      case atStart => exact ⟨0, by omega, rfl, rfl, hb0.out⟩
      case round =>
        clear hb0
        obtain ⟨i, hi, rfl, rfl, hb⟩ := hrel
        by_cases hlt : i < acs.length
        · obtain ⟨g, off, rfl, hg2, hrg⟩ := (hA.out wr hb).at hlt
          have hix := Lib.hid (fun w => run_idx_acctW g off acs.length cA i hlt w)
          have hltI : ((i : Nat) : Int) < ((acs.length : Nat) : Int) := by omega
          have hi4 := Lib.hid (show (Try.prog.info? 58).map (·.size) = some (Acct.cells acs[i]).length by kernel_rfl)
          have hi5 := Lib.hid (show (Try.prog.info? 58).map (·.size) = some (Acct.cells acs[i]).toArray.size by kernel_rfl)
          have hone := Lib.hid (all_oneCell_toArray (acctW.one acs[i]))
          have hcz : ∀ z : Array Value, z.size = 14 → z.size = (Acct.cells acs[i]).toArray.size := fun z h => h
          replace hcz := Lib.hid hcz
          obtain ⟨W2, hW2⟩ : ∃ W2, W2 = wr.alloc (.cells (Acct.cells acs[i]).toArray 58) := ⟨_, rfl⟩
          have hb2 : Below wr.heap.size wr W2 := by rw [hW2]; exact (Below.refl _ _).alloc (Nat.le_refl _) _
          have hx := Lib.hid (show W2.rangeAt wr.heap.size 0 (Acct.cells acs[i]) by rw [hW2]; exact (BoxAt.new wr (Acct.cells acs[i]) _).range)
          have hc := refbytes_acct acs[i] W2
          have hbe := Lib.hid (hb.trans (hb2.mono hb.size))
          have hnx := n2.out i hlt
          have u1 := z2.out i
          have u2 : (accB acs[i]).size ≤ 200 := by rw [accB_size]; omega
          replace hrg := Lib.hid hrg
          unfold acctV at hc
          replace hc := Lib.hid hc
          replace hW2 := Lib.hid hW2
          generalize accB acs[i] = y at *
          generalize Acct.cells acs[i] = X at *
          generalize hDi : D2 i = Di at *
          clear hb hb2
          go_wp2_with (first
            | (refine wpList_index_run rfl 22 (.tmp 44) (.tmp 46) rfl (.slice (some ⟨g, off, none⟩) acs.length cA) (.int .i64 (i : Int)) _ rfl rfl (hix.out _) ?_)
            | (refine wpList_load_midg rfl 58 (.tmp 48) rfl g (off + i * 14) rfl X _ hrg.out Try.underlying58 rfl hi4.out ?_)
            | (refine wpList_store_new rfl 58 (.tmp 13) (.tmp 49) rfl wr _ X.toArray rfl rfl rfl hi5.out (hcz.out _ rfl) hone.out ?_; rw [← hW2.out])
            | (refine wpList_load_midg rfl 58 (.tmp 13) rfl wr.heap.size 0 rfl X _ hx.out Try.underlying58 rfl hi4.out ?_))
          refine hc.out.mono ?_
          rintro e w5 ⟨rfl, hb5⟩
          have hfin := Lib.hid (hbe.out.trans (hb5.mono hbe.out.size))
          clear hb5 hc hx hrg
          replace hnx := Lib.hid hnx
          have hA1 : i + 1 ≤ acs.length := by omega
          go_wp2_with fail
          go_roundw
          case measure => (show (((acs.length : Nat) : Int) - (((i : Nat) : Int) + 1)).toNat < (((acs.length : Nat) : Int) - ((i : Nat) : Int)).toNat; omega)
          case rel => exact ⟨i + 1, hA1, by go_num, by rw [← hnx.out], hfin.out⟩
        · obtain rfl : i = acs.length := by omega
          clear hA n2
          generalize hDe : D2 acs.length = De at *
          go_wp2_with fail
          refine (ki.out _ _ _).mono ?_
          rintro e w6 ⟨rfl, hb6⟩
          have hb0 := Lib.hid (hb.trans (hb6.mono hb.size))
          clear hb hb6
          have hf := f3.out
          go_wp2_with fail
          try simp only [hf]
          clear hf f3
          go_loopw [9, 62] (fun sv iv wr => ∃ i : Nat, i ≤ ts.length ∧ iv = .int .i64 i ∧ sv = .string (D3 i) ∧ Below W.heap.size W wr) (fun _ iv _ => (ts.length - RowKit.intOf iv).toNat)
          case atStart => exact ⟨0, by omega, rfl, rfl, hb0.out⟩
          case round =>
            clear hb0
            obtain ⟨i, hi, rfl, rfl, hb⟩ := hrel
            by_cases hlt : i < ts.length
            · obtain ⟨g, off, rfl, hg2, hrg⟩ := (hT.out wr hb).at hlt
              have hix := Lib.hid (fun w => run_idx_tranW g off ts.length cT i hlt w)
              have hltI : ((i : Nat) : Int) < ((ts.length : Nat) : Int) := by omega
              have hi4 := Lib.hid (show (Try.prog.info? 61).map (·.size) = some (Tran.cells ts[i]).length by kernel_rfl)
              have hi5 := Lib.hid (show (Try.prog.info? 61).map (·.size) = some (Tran.cells ts[i]).toArray.size by kernel_rfl)
              have hone := Lib.hid (all_oneCell_toArray (tranW.one ts[i]))
              have hcz : ∀ z : Array Value, z.size = 16 → z.size = (Tran.cells ts[i]).toArray.size := fun z h => h
              replace hcz := Lib.hid hcz
              obtain ⟨W2, hW2⟩ : ∃ W2, W2 = wr.alloc (.cells (Tran.cells ts[i]).toArray 61) := ⟨_, rfl⟩
              have hb2 : Below wr.heap.size wr W2 := by rw [hW2]; exact (Below.refl _ _).alloc (Nat.le_refl _) _
              have hx := Lib.hid (show W2.rangeAt wr.heap.size 0 (Tran.cells ts[i]) by rw [hW2]; exact (BoxAt.new wr (Tran.cells ts[i]) _).range)
              have hc := refbytes_tran ts[i] W2
              have hbe := Lib.hid (hb.trans (hb2.mono hb.size))
              have hnx := n3.out i hlt
              have u1 := z3.out i
              have u2 : (traB ts[i]).size ≤ 200 := by rw [traB_size]; omega
              replace hrg := Lib.hid hrg
              unfold tranV at hc
              replace hc := Lib.hid hc
              replace hW2 := Lib.hid hW2
              generalize traB ts[i] = y at *
              generalize Tran.cells ts[i] = X at *
              generalize hDi : D3 i = Di at *
              clear hb hb2
              go_wp2_with (first
                | (refine wpList_index_run rfl 23 (.tmp 60) (.tmp 62) rfl (.slice (some ⟨g, off, none⟩) ts.length cT) (.int .i64 (i : Int)) _ rfl rfl (hix.out _) ?_)
                | (refine wpList_load_midg rfl 61 (.tmp 64) rfl g (off + i * 16) rfl X _ hrg.out Try.underlying61 rfl hi4.out ?_)
                | (refine wpList_store_new rfl 61 (.tmp 15) (.tmp 65) rfl wr _ X.toArray rfl rfl rfl hi5.out (hcz.out _ rfl) hone.out ?_; rw [← hW2.out])
                | (refine wpList_load_midg rfl 61 (.tmp 15) rfl wr.heap.size 0 rfl X _ hx.out Try.underlying61 rfl hi4.out ?_))
              refine hc.out.mono ?_
              rintro e w5 ⟨rfl, hb5⟩
              have hfin := Lib.hid (hbe.out.trans (hb5.mono hbe.out.size))
              clear hb5 hc hx hrg
              replace hnx := Lib.hid hnx
              have hA1 : i + 1 ≤ ts.length := by omega
              go_wp2_with fail
              go_roundw
              case measure => (show (((ts.length : Nat) : Int) - (((i : Nat) : Int) + 1)).toNat < (((ts.length : Nat) : Int) - ((i : Nat) : Int)).toNat; omega)
              case rel => exact ⟨i + 1, hA1, by go_num, by rw [← hnx.out], hfin.out⟩
            · obtain rfl : i = ts.length := by omega
              clear hT n3
              replace hb := Lib.hid hb
              go_wp2
              go_ret
              exact ⟨rfl, hb.out⟩
theorem refReply_any (er : Int) (rs : List Resu) (acs : List Acct) (ts : List Tran) (oR oA oT : Option Addr) (cR cA cT : Nat) (W : World) (hR : RowAt Resu.cells 1 W oR rs) (hA : RowAt Acct.cells 14 W oA acs) (hT : RowAt Tran.cells 16 W oT ts) :
    Calls Try.prog 17 #[.int .i64 er, .slice oR rs.length cR, .slice oA acs.length cA, .slice oT ts.length cT] W fun e W' => e = .returned (.string (repB ⟨er, rs, acs, ts⟩)) ∧ Below W.heap.size W W' := by
  unfold repB
  cases hf : fitsP ⟨er, rs, acs, ts⟩
  · rw [saidP_not hf]
    exact refReply_no er rs acs ts oR oA oT cR cA cT W hf hR hA hT
  · rw [saidP_of hf]
    exact refReply_yes er rs acs ts oR oA oT cR cA cT W hf hR hA hT
end Go.Proofs.Ytfdanlfiaoedfaa
